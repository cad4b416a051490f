/- A part. -/
import Derived.Test.YtbgbpfbjeleooaaGreatMRart
import Derived.WalkKit
namespace Go.Proofs.YtbgbpfbjeleooaaGreat
def jcB:List Int→Int
 | []=>1
 | z::zs=>z*jcB zs
theorem jeD (a b:List Int):jcB (a++b)=jcB a*jcB b:=by
 induction a with
 | nil=>simp [jcB]
 | cons z zs ih=>simp [jcB,ih,Int.mul_assoc]
theorem prod_pos:∀ (zs:List Int),(∀ z∈zs,1≤z)→1≤jcB zs
 | [],_=>by simp [jcB]
 | z::zs,h=>by
  have h1:=h z (by simp);have h2:=prod_pos zs (fun y hy=>h y (by simp [hy]));have:=Int.mul_le_mul h1 h2 (by omega) (by omega);simpa [jcB] using this
theorem jeE {a b:Int} (ha:1≤a) (hb:0≤b):b≤a*b:=by
 have:=Int.mul_le_mul_of_nonneg_right ha hb;omega
theorem jhG {a b:Int} (ha:1≤a) (hb:0≤b):b≤b*a:=by
 rw [Int.mul_comm];exact jeE ha hb
theorem jfN {zs:List Int} (h:∀ z∈zs,1≤z) (k:Nat):∀ z∈zs.drop k,1≤z:=fun z hz=>h z (List.mem_of_mem_drop hz)
theorem jg7 {zs:List Int} (h:∀ z∈zs,1≤z) (k:Nat):∀ z∈zs.take k,1≤z:=fun z hz=>h z (List.mem_of_mem_take hz)
theorem jfA {zs:List Int} (h:∀ z∈zs,1≤z) (k:Nat):jcB (zs.drop k)≤jcB zs:=by
 have e:jcB zs=jcB (zs.take k)*jcB (zs.drop k):=by rw [← jeD,List.take_append_drop]
 rw [e];have h2:=prod_pos _ (jfN h k);exact jeE (prod_pos _ (jg7 h k)) (by omega)
theorem jhH {zs:List Int} (h:∀ z∈zs,1≤z) (k:Nat):jcB (zs.take k)≤jcB zs:=by
 have e:jcB zs=jcB (zs.take k)*jcB (zs.drop k):=by rw [← jeD,List.take_append_drop]
 rw [e];have h2:=prod_pos _ (jg7 h k);exact jhG (prod_pos _ (jfN h k)) (by omega)
theorem jko (zs:List Int) (k:Nat) (hk:k<zs.length):zs.drop k=zs.getD k 0::zs.drop (k+1):=by
 rw [List.drop_eq_getElem_cons hk];simp [List.getD,hk]
theorem jgB (zs:List Int) (k:Nat) (hk:k<zs.length):jcB (zs.drop k)=zs.getD k 0*jcB (zs.drop (k+1)):=by
 rw [jko zs k hk];rfl
theorem jhI (zs:List Int) (k:Nat) (hk:k<zs.length):zs.take (k+1)=zs.take k++[zs.getD k 0]:=by
 rw [List.take_add_one];simp [List.getD,hk]
theorem jgC (zs:List Int) (k:Nat) (hk:k<zs.length):jcB (zs.take (k+1))=jcB (zs.take k)*zs.getD k 0:=by
 rw [jhI zs k hk,jeD];simp [jcB]
def jcL (zs:List Int):Int:=if zs.any (fun z=>decide (z<1))=true then 4 else if 6<zs.length then 6 else if 65536<jcB zs then 6 else 0
def cnt (zs:List Int):Int:=if jcL zs=0 then jcB zs else 0
theorem jiv (zs:List Int):zs.any (fun z=>decide (z<1))=true↔∃ z∈zs,z<1:=by simp [List.any_eq_true]
theorem ji4 {zs:List Int} (h:∃ z∈zs,z<1):jcL zs=4:=by simp [jcL,(jiv zs).2 h]
theorem jiw {zs:List Int} (h:∀ z∈zs,1≤z):zs.any (fun z=>decide (z<1))=false:=by
 rw [Bool.eq_false_iff,ne_eq,jiv];rintro ⟨z,hz,h1⟩;have:=h z hz;omega
theorem jhJ {zs:List Int} (h:∀ z∈zs,1≤z) (hl:6<zs.length):jcL zs=6:=by simp [jcL,jiw h,hl]
theorem jgG {zs:List Int} (h:∀ z∈zs,1≤z) (hp:65536<jcB zs):jcL zs=6:=by
 simp only [jcL,jiw h,Bool.false_eq_true,if_false,hp,if_true]
 split <;> rfl
theorem jna {zs:List Int} (h:∀ z∈zs,1≤z) (hl:zs.length≤6) (hp:jcB zs≤65536):jcL zs=0:=by
 simp only [jcL,jiw h,Bool.false_eq_true,if_false,if_neg (show ¬ 6<zs.length by omega),if_neg (show ¬ 65536<jcB zs by omega)]
structure Fine (zs:List Int):Prop where
 pos:∀ z∈zs,1≤z
 few:zs.length≤6
 le:jcB zs≤65536
theorem jfj {zs:List Int} (h:jcL zs=0):Fine zs:=by
 unfold jcL at h
 split at h
 ·simp at h
 ·split at h
  ·simp at h
  ·split at h
   ·simp at h
   ·rename_i h1 h2 h3;refine ⟨fun z hz=>?_,by omega,by omega⟩
    rcases Int.lt_or_le z 1 with h4 | h4
    ·exact absurd ((jiv zs).2 ⟨z,hz,h4⟩) h1
    ·omega
theorem Fine.ok {zs:List Int} (h:Fine zs):jcL zs=0:=jna h.pos h.few h.le
theorem Fine.cnt {zs:List Int} (h:Fine zs):cnt zs=jcB zs:=by simp [Go.Proofs.YtbgbpfbjeleooaaGreat.cnt,h.ok]
theorem jnb {zs:List Int} (h:jcL zs≠0):cnt zs=0:=by simp [cnt,h]
theorem jnU (zs:List Int):jcL zs=0∨jcL zs=4∨jcL zs=6:=by
 unfold jcL;split <;> (try split) <;> (try split) <;> simp
theorem Fine.drop {zs:List Int} (h:Fine zs) (k:Nat):Fine (zs.drop k) :=
 ⟨jfN h.pos k,by have:=h.few;simp;omega,Int.le_trans (jfA h.pos k) h.le⟩
theorem Fine.prod_pos {zs:List Int} (h:Fine zs):1≤jcB zs:=Go.Proofs.YtbgbpfbjeleooaaGreat.prod_pos zs h.pos
theorem Fine.at {zs:List Int} (h:Fine zs) (k:Nat) (hk:k<zs.length):1≤zs.getD k 0:=h.pos _ (by simp [List.getD,hk])
end Go.Proofs.YtbgbpfbjeleooaaGreat
namespace Go.Proofs.YtbgbpfbjeleooaaGreat.Wr
def bt (s:ByteArray) (i:Nat):Nat:=if h:i<s.size then s[i].toNat else 0
theorem bt_lt (s:ByteArray) (i:Nat):bt s i<256:=by
 unfold bt;split
 ·exact UInt8.toNat_lt _
 ·omega
theorem bt_at (s:ByteArray) (i:Nat) (h:i<s.size):s[i].toNat=bt s i:=by unfold bt;rw [dif_pos h]
def tkF (s:ByteArray) (p:Nat):Nat→Nat→Nat→Option (Nat×Nat)
 | 0,_,_=>none
 | f+1,i,u=>if p+i<s.size then (if i=9∧1<bt s (p+i) then none else if bt s (p+i)<128 then some (u+bt s (p+i)*128 ^ i,p+i+1) else tkF s p f (i+1) (u+bt s (p+i) % 128*128 ^ i)) else none
def tk (s:ByteArray) (p:Nat):Option (Nat×Nat):=tkF s p 10 0 0
theorem jkp {s:ByteArray} {p f i u:Nat} (h:s.size≤p+i):tkF s p f i u=none:=by
 cases f with
 | zero=>rfl
 | succ f=>unfold tkF;rw [if_neg (by omega)]
theorem jnc {s:ByteArray} {p f u:Nat} (hb:1<bt s (p+9)):tkF s p f 9 u=none:=by
 cases f with
 | zero=>rfl
 | succ f => unfold tkF; split
             ·rw [if_pos ⟨rfl,hb⟩]
             ·rfl
theorem jfO {s:ByteArray} {p f i u:Nat} (h:p+i<s.size) (h9:¬ (i=9∧1<bt s (p+i))) (hb:bt s (p+i)<128):tkF s p (f+1) i u=some (u+bt s (p+i)*128 ^ i,p+i+1):=by
 unfold tkF;rw [if_pos h,if_neg h9,if_pos hb]
theorem ji5 {s:ByteArray} {p f i u:Nat} (h:p+i<s.size) (h9:¬ i=9) (hb:¬ bt s (p+i)<128):tkF s p (f+1) i u=tkF s p f (i+1) (u+bt s (p+i) % 128*128 ^ i):=by
 conv=>lhs;unfold tkF
 rw [if_pos h,if_neg (by omega),if_neg hb]
theorem jeS {i:Nat} (hi:i≤9):i=0∨i=1∨i=2∨i=3∨i=4∨i=5∨i=6∨i=7∨i=8∨i=9:=by omega
theorem jkq {u b i:Nat} (hi:i≤8) (hu:u<128 ^ i):u+b % 128*128 ^ i<128 ^ (i+1):=by
 rcases jeS (i:=i) (by omega) with rfl | rfl | rfl | rfl | rfl | rfl | rfl | rfl | rfl | rfl <;> simp at*<;> omega
theorem tkF_spec {s:ByteArray} {p:Nat} : ∀ (f i u:Nat),i+f=10→u<128 ^ i→∀ {v n},tkF s p f i u=some (v,n)→v<18446744073709551616∧p+i<n∧n≤s.size∧n≤p+10:=by
 intro f
 induction f with
 | zero=>intro i u _ _ v n h;cases h
 | succ f ih =>
  intro i u hf hu v n h;unfold tkF at h
  by_cases h1:p+i<s.size
  ·rw [if_pos h1] at h
   by_cases h2:i=9∧1<bt s (p+i)
   ·rw [if_pos h2] at h;cases h
   ·rw [if_neg h2] at h
    by_cases h3:bt s (p+i)<128
    ·rw [if_pos h3] at h
     cases h
     have hi:i≤9:=by omega
     refine ⟨?_,by omega,by omega,by omega⟩;generalize bt s (p+i)=b at *
     rcases jeS hi with rfl | rfl | rfl | rfl | rfl | rfl | rfl | rfl | rfl | rfl <;> simp at*<;> omega
    ·rw [if_neg h3] at h;have hb:i≠9:=by intro e;subst e;omega
     have:=ih (i+1) _ (by omega) (jkq (by omega) hu) h;omega
  ·rw [if_neg h1] at h;cases h
theorem tk_spec {s:ByteArray} {p v n:Nat} (h:tk s p=some (v,n)):v<18446744073709551616∧p<n∧n≤s.size∧n≤p+10:=by
 have:=tkF_spec 10 0 0 rfl (by simp) h;omega
def tkU (s:ByteArray) (p:Nat):Nat:=((tk s p).map (·.1)).getD 0
def tkN (s:ByteArray) (p:Nat):Nat:=((tk s p).map (·.2)).getD 0
def tkB (s:ByteArray) (p:Nat):Bool:=(tk s p).isSome
def vbF:Nat→Nat→List Nat
 | 0,u=>[u % 256]
 | f+1,u=>if u<128 then [u] else (u % 128+128)::vbF f (u / 128)
def vb (u:Nat):List Nat:=vbF 10 u
end Go.Proofs.YtbgbpfbjeleooaaGreat.Wr
namespace Go.Proofs.YtbgbpfbjeleooaaGreat.Wr
structure Fld where
 num:Int
 kind:Int
 u:Int
 b:ByteArray
def low (s:ByteArray) (p:Nat):Nat→Nat
 | 0=>0
 | n+1=>bt s p+256*low s (p+1) n
theorem ji6 (s:ByteArray):∀ (n p:Nat),low s p n<256 ^ n:=by
 intro n
 induction n with
 | zero=>intro p;simp [low]
 | succ n ih =>
  intro p;have h1:=ih (p+1);have h2:=bt_lt s p;rw [low,Nat.pow_succ];omega
theorem ji7 (s:ByteArray):∀ (n p:Nat),low s p (n+1)=low s p n+bt s (p+n)*256 ^ n:=by
 intro n
 induction n with
 | zero=>intro p;simp [low]
 | succ n ih =>
  intro p;rw [low,ih (p+1),low,Nat.pow_succ,show p+1+n=p+(n+1) by omega,Nat.mul_add,Nat.add_assoc]
  congr 1
  congr 1
  rw [Nat.mul_comm 256,Nat.mul_assoc]
def fdT (s:ByteArray) (t q:Nat):Option (Fld×Nat) :=
 if 4294967295<t∨t<8 then none
 else if t % 8=0 then (tk s q).map fun x=>(⟨(t / 8:Nat),0,x.1,ByteArray.empty⟩,x.2)
 else if t % 8=1 then (if q+8≤s.size then some (⟨(t / 8:Nat),1,low s q 8,ByteArray.empty⟩,q+8) else none)
 else if t % 8=5 then (if q+4≤s.size then some (⟨(t / 8:Nat),5,low s q 4,ByteArray.empty⟩,q+4) else none)
 else if t % 8=2 then (match tk s q with
  | none=>none
  | some (n,r)=>if n≤s.size - r then some (⟨(t / 8:Nat),2,0,s.extract r (r+n)⟩,r+n) else none)
 else none
def fd (s:ByteArray) (p:Nat):Option (Fld×Nat) :=
 match tk s p with
 | none=>none
 | some (t,q)=>fdT s t q
def allF {α:Type} (item:Nat→Option (α×Nat)) (size:Nat):Nat→Nat→Option (List α)
 | 0,_=>some []
 | f+1,p=>if p<size then (match item p with
  | none=>none
  | some (x,q)=>(allF item size f q).map (x::·)) else some []
def all {α:Type} (item:Nat→Option (α×Nat)) (size:Nat):Option (List α):=allF item size size 0
theorem jch {α:Type} {item:Nat→Option (α×Nat)} {size f p:Nat} (h:size≤p):allF item size f p=some []:=by
 cases f with
 | zero=>rfl
 | succ f=>unfold allF;rw [if_neg (by omega)]
theorem jdp {α:Type} {item:Nat→Option (α×Nat)} {size f p:Nat} (h:p<size) (hf:size≤p+f) (hi:item p=none):allF item size f p=none:=by
 cases f with
 | zero=>omega
 | succ f=>unfold allF;rw [if_pos h,hi]
theorem allF_some {α:Type} {item:Nat→Option (α×Nat)} {size f p:Nat} {x:α} {q:Nat} (h:p<size) (hf:size≤p+f) (hi:item p=some (x,q)):allF item size f p=(allF item size (f - 1) q).map (x::·):=by
 cases f with
 | zero=>omega
 | succ f => conv => lhs; unfold allF
             rw [if_pos h,hi];rfl
theorem ji8 {α:Type} (acc:List α) (x:α) (o:Option (List α)):((o.map (x::·)).map (acc++·))=o.map ((acc++[x])++·):=by
 cases o <;> simp
theorem jlN {s:ByteArray} {t q:Nat} {x:Fld} {r:Nat} (h:fdT s t q=some (x,r)) :
    q≤r∧r≤s.size∧1≤x.num∧x.num≤536870911∧0≤x.kind∧x.kind≤5∧0≤x.u∧x.u<18446744073709551616∧x.b.size≤r - q:=by
     unfold fdT at h;have l8:=ji6 s 8 q;have l4:=ji6 s 4 q
     split at h
     ·cases h
     ·have ht:¬ (4294967295<t∨t<8):=by assumption
      split at h
      ·cases hk:tk s q with
       | none=>rw [hk] at h;cases h
       | some y =>
        rw [hk] at h;obtain ⟨v,n⟩:=y;have:=tk_spec hk
        cases h
        simp;omega
      ·split at h
       ·split at h
        ·cases h;simp at *;omega
        ·cases h
       ·split at h
        ·split at h
         ·cases h;simp at *;omega
         ·cases h
        ·split at h
         ·cases hk:tk s q with
          | none=>rw [hk] at h;cases h
          | some y =>
           obtain ⟨v,n⟩:=y;have:=tk_spec hk;rw [hk] at h;simp only at h
           split at h
           ·cases h;simp [ByteArray.size_extract] at *;omega
           ·cases h
         ·cases h
theorem fd_spec {s:ByteArray} {p:Nat} {x:Fld} {r:Nat} (h:fd s p=some (x,r)) :
    p<r∧r≤s.size∧1≤x.num∧x.num≤536870911∧0≤x.kind∧x.kind≤5∧0≤x.u∧x.u<18446744073709551616∧x.b.size≤r - p:=by
     unfold fd at h
     cases hk:tk s p with
     | none=>rw [hk] at h;cases h
     | some y =>
      obtain ⟨t,q⟩:=y;have h1:=tk_spec hk;rw [hk] at h;have h2:=jlN h;omega
end Go.Proofs.YtbgbpfbjeleooaaGreat.Wr
namespace Go.Proofs.YtbgbpfbjeleooaaGreat.Wr
theorem allF_fuel' {α:Type} {item:Nat→Option (α×Nat)} {size:Nat} (hi:∀ {p:Nat} {x:α} {q:Nat},item p=some (x,q)→p<q):∀ {f f' p:Nat},size≤p+f→size≤p+f'→allF item size f p=allF item size f' p:=by
 intro f
 induction f with
 | zero=>intro f' p h h';rw [jch (by omega),jch (by omega)]
 | succ f ih =>
  intro f' p h h'
  by_cases hp:p<size
  ·cases f' with
   | zero=>omega
   | succ f' =>
    unfold allF;rw [if_pos hp,if_pos hp]
    cases hx:item p with
    | none=>rfl
    | some y =>
     obtain ⟨x,q⟩:=y;have:=hi hx;simp only;rw [ih (f':=f') (by omega) (by omega)]
  ·rw [jch (by omega),jch (by omega)]
theorem jkr (s t:ByteArray) (i:Nat) (h:i<s.size):bt (s++t) i=bt s i:=by
 unfold bt;rw [dif_pos (by rw [ByteArray.size_append];omega),dif_pos h,ByteArray.getElem_append_left h]
theorem ji9 (s t:ByteArray) (i:Nat):bt (s++t) (s.size+i)=bt t i:=by
 unfold bt
 by_cases h:i<t.size
 ·rw [dif_pos (by rw [ByteArray.size_append];omega),dif_pos h,ByteArray.getElem_append_right (by omega)];simp
 ·rw [dif_neg (by rw [ByteArray.size_append];omega),dif_neg h]
theorem jlO (s t:ByteArray) (p:Nat):∀ (f i u:Nat) {v n:Nat},tkF s p f i u=some (v,n)→tkF (s++t) p f i u=some (v,n):=by
 intro f
 induction f with
 | zero=>intro i u v n h;cases h
 | succ f ih =>
  intro i u v n h;unfold tkF at h ⊢
  by_cases h1:p+i<s.size
  ·rw [if_pos h1] at h;rw [if_pos (by rw [ByteArray.size_append];omega),jkr s t _ h1]
   split at h
   ·cases h
   ·rename_i h2;rw [if_neg h2]
    split at h
    ·rename_i h3;rw [if_pos h3];exact h
    ·rename_i h3;rw [if_neg h3];exact ih _ _ h
  ·rw [if_neg h1] at h;cases h
theorem jks (s t:ByteArray) (p:Nat):∀ (f i u:Nat),tkF (s++t) (s.size+p) f i u=(tkF t p f i u).map fun x=>(x.1,s.size+x.2):=by
 intro f
 induction f with
 | zero=>intro i u;rfl
 | succ f ih =>
  intro i u;unfold tkF;have e:s.size+p+i=s.size+(p+i):=by omega
  rw [e,ji9,ByteArray.size_append]
  by_cases h1:p+i<t.size
  ·rw [if_pos h1,if_pos (by omega)]
   by_cases h2:i=9∧1<bt t (p+i)
   ·rw [if_pos h2,if_pos h2];rfl
   ·rw [if_neg h2,if_neg h2]
    by_cases h3:bt t (p+i)<128
    ·rw [if_pos h3,if_pos h3];rfl
    ·rw [if_neg h3,if_neg h3];exact ih _ _
  ·rw [if_neg h1,if_neg (by omega)];rfl
theorem tk_left {s t:ByteArray} {p v n:Nat} (h:tk s p=some (v,n)):tk (s++t) p=some (v,n):=jlO s t p _ _ _ h
theorem tk_right (s t:ByteArray) (p:Nat):tk (s++t) (s.size+p)=(tk t p).map fun x=>(x.1,s.size+x.2):=jks s t p _ _ _
theorem low_left (s t:ByteArray):∀ (n p:Nat),p+n≤s.size→low (s++t) p n=low s p n:=by
 intro n
 induction n with
 | zero=>intro p _;rfl
 | succ n ih=>intro p h;rw [low,low,ih (p+1) (by omega),jkr s t p (by omega)]
theorem low_right (s t:ByteArray):∀ (n p:Nat),low (s++t) (s.size+p) n=low t p n:=by
 intro n
 induction n with
 | zero=>intro p;rfl
 | succ n ih=>intro p;rw [low,low,ji9,show s.size+p+1=s.size+(p+1) by omega,ih]
theorem jlP (s t:ByteArray) (a b:Nat) (h:b≤s.size):(s++t).extract a b=s.extract a b:=by
 rw [ByteArray.extract_append]
 have:t.extract (a - s.size) (b - s.size)=ByteArray.empty:=by
  rw [show b - s.size=0 by omega];apply ByteArray.ext;simp
 rw [this];simp
theorem jhK (s t:ByteArray) (a b:Nat):(s++t).extract (s.size+a) (s.size+b)=t.extract a b:=by
 rw [ByteArray.extract_append]
 have:s.extract (s.size+a) (s.size+b)=ByteArray.empty:=by
  have h0:(s.extract (s.size+a) (s.size+b)).size=0:=by rw [ByteArray.size_extract];omega
  exact ByteArray.ext (Array.eq_empty_of_size_eq_zero h0)
 rw [this];simp
theorem jlQ {s t:ByteArray} {c q:Nat} {x:Fld} {r:Nat} (h:fdT s c q=some (x,r)):fdT (s++t) c q=some (x,r):=by
 have hsz:(s++t).size=s.size+t.size:=ByteArray.size_append;unfold fdT at h ⊢
 split at h
 ·cases h
 ·rename_i h0;rw [if_neg h0]
  split at h
  ·rename_i h1;rw [if_pos h1]
   cases hk:tk s q with
   | none=>rw [hk] at h;cases h
   | some y=>obtain ⟨v,n⟩:=y;rw [hk] at h;rw [tk_left hk];exact h
  ·rename_i h1;rw [if_neg h1]
   split at h
   ·rename_i h2;rw [if_pos h2]
    split at h
    ·rename_i h3;rw [if_pos (by omega),low_left s t 8 q h3];exact h
    ·cases h
   ·rename_i h2;rw [if_neg h2]
    split at h
    ·rename_i h4;rw [if_pos h4]
     split at h
     ·rename_i h3;rw [if_pos (by omega),low_left s t 4 q h3];exact h
     ·cases h
    ·rename_i h4;rw [if_neg h4]
     split at h
     ·rename_i h5;rw [if_pos h5]
      cases hk:tk s q with
      | none=>rw [hk] at h;cases h
      | some y =>
       obtain ⟨v,n⟩:=y;have hsp:=tk_spec hk;rw [hk] at h;rw [tk_left hk];simp only at h ⊢
       split at h
       ·rename_i h6;rw [if_pos (by omega),jlP s t _ _ (by omega)];exact h
       ·cases h
     ·cases h
theorem jnd {s t:ByteArray} {p:Nat} {x:Fld} {r:Nat} (h:fd s p=some (x,r)):fd (s++t) p=some (x,r):=by
 unfold fd at h ⊢
 cases hk:tk s p with
 | none=>rw [hk] at h;cases h
 | some y=>obtain ⟨c,q⟩:=y;rw [hk] at h;rw [tk_left hk];exact jlQ h
theorem jhL (s t:ByteArray) (c q:Nat) (hq:q≤t.size):fdT (s++t) c (s.size+q)=(fdT t c q).map fun x=>(x.1,s.size+x.2):=by
 have hsz:(s++t).size=s.size+t.size:=ByteArray.size_append;unfold fdT;rw [tk_right,low_right,low_right,hsz]
 split
 ·rfl
 ·split
  ·cases tk t q <;> rfl
  ·split
   ·by_cases h:q+8≤t.size
    ·rw [if_pos h,if_pos (by omega)];rfl
    ·rw [if_neg h,if_neg (by omega)];rfl
   ·split
    ·by_cases h:q+4≤t.size
     ·rw [if_pos h,if_pos (by omega)];rfl
     ·rw [if_neg h,if_neg (by omega)];rfl
    ·split
     ·cases hk:tk t q with
      | none=>rfl
      | some y =>
       obtain ⟨n,r⟩:=y;have hsp:=tk_spec hk;simp only [Option.map_some]
       by_cases h:n≤t.size - r
       ·rw [if_pos h,if_pos (by omega),show s.size+r+n=s.size+(r+n) by omega,jhK];rfl
       ·rw [if_neg h,if_neg (by omega)];rfl
     ·rfl
theorem jlR (s t:ByteArray) (p:Nat):fd (s++t) (s.size+p)=(fd t p).map fun x=>(x.1,s.size+x.2):=by
 unfold fd;rw [tk_right]
 cases hk:tk t p with
 | none=>rfl
 | some y =>
  obtain ⟨c,q⟩:=y;have hsp:=tk_spec hk;exact jhL s t c q (by omega)
theorem jgH (s t:ByteArray):∀ (f p:Nat),allF (fd (s++t)) (s.size+t.size) f (s.size+p)=allF (fd t) t.size f p:=by
 intro f
 induction f with
 | zero=>intro p;rfl
 | succ f ih =>
  intro p;unfold allF
  by_cases h:p<t.size
  ·rw [if_pos h,if_pos (by omega),jlR]
   cases hk:fd t p with
   | none=>rfl
   | some y=>obtain ⟨x,q⟩:=y;simp only [Option.map_some];rw [ih]
  ·rw [if_neg h,if_neg (by omega)]
theorem jkt (s t:ByteArray) (ys:List Fld) (hy:all (fd t) t.size=some ys):∀ (f p:Nat) (xs:List Fld),s.size≤p+f→p≤s.size→allF (fd s) s.size f p=some xs→allF (fd (s++t)) (s.size+t.size) (f+t.size) p=some (xs++ys):=by
 intro f
 induction f with
 | zero =>
  intro p xs h1 h2 h;obtain rfl:p=s.size:=by omega
  cases h
  rw [Nat.zero_add];exact (jgH s t t.size 0).trans hy
 | succ f ih =>
  intro p xs h1 h2 h
  by_cases hp:p<s.size
  ·unfold allF at h;rw [if_pos hp] at h
   cases hk:fd s p with
   | none=>rw [hk] at h;cases h
   | some y =>
    obtain ⟨x,q⟩:=y;have hsp:=fd_spec hk;rw [hk] at h;simp only at h
    cases hr:allF (fd s) s.size f q with
    | none=>rw [hr] at h;cases h
    | some zs =>
     rw [hr] at h
     cases h
     rw [show f+1+t.size=f+t.size+1 by omega];unfold allF;rw [if_pos (by omega),jnd hk];simp only;rw [ih q zs (by omega) (by omega) hr]
     rfl
  ·obtain rfl:p=s.size:=by omega
   rw [jch (Nat.le_refl _)] at h
   cases h
   have e:allF (fd (s++t)) (s.size+t.size) (f+1+t.size) s.size=allF (fd t) t.size (f+1+t.size) 0:=jgH s t (f+1+t.size) 0;rw [e,List.nil_append];rw [← hy];exact allF_fuel' (fun h=>by have:=fd_spec h;omega) (by omega) (by omega)
theorem all_join {s t:ByteArray} {xs ys:List Fld} (hx:all (fd s) s.size=some xs) (hy:all (fd t) t.size=some ys):all (fd (s++t)) (s++t).size=some (xs++ys):=by
 unfold all;rw [ByteArray.size_append];exact jkt s t ys hy s.size 0 xs (by omega) (by omega) hx
end Go.Proofs.YtbgbpfbjeleooaaGreat.Wr
