/- A part. -/
import Derived.WalkKit
import Derived.WalkSpells
import Derived.WalkLawsBesides
import Derived.Laws.FloatArith
import Derived.Laws.BitsAllLaws
namespace Go.Proofs.YtanpkdkenifmbaaGreatDoor.Nu
open Go.RowKit
theorem jgM (a:Nat) (h:a<4294967296):a &&& 18446744071562067967=a % 2147483648:=by
 have h1:a &&& 4294967295=a:=by
  have:=Nat.and_two_pow_sub_one_eq_mod a 32;simp only [Nat.reducePow,Nat.reduceSub] at this;rw [this];exact Nat.mod_eq_of_lt h
 have h2:a % 2147483648=a &&& 2147483647:=by
  have:=Nat.and_two_pow_sub_one_eq_mod a 31;simp only [Nat.reducePow,Nat.reduceSub] at this;exact this.symm
 rw [h2]
 conv=>lhs;rw [← h1]
 rw [Nat.and_assoc];have e:(4294967295:Nat) &&& 18446744071562067967=2147483647:=by decide
 rw [e]
theorem jba (n:Int):IntKind.i64.wrap n=wrap64 n:=by
 simp [IntKind.wrap,IntKind.bits,IntKind.signed,wrap64];split <;> omega
theorem jes (x:Int) (h0:0≤x) (h:x<4294967296):bits .andNot .i64 x 2147483648=x % 2147483648:=by
 obtain ⟨a,rfl⟩:=Int.eq_ofNat_of_zero_le h0;have ha:a<4294967296:=by omega
 show IntKind.i64.wrap ((BitVec.ofInt 64 (a:Int) &&& ~~~BitVec.ofInt 64 (2147483648:Int)).toNat:Int)=_;have e1:(BitVec.ofInt 64 (a:Int)).toNat=a:=ofInt_u64 a (by omega);have e2:(~~~BitVec.ofInt 64 (2147483648:Int)).toNat=18446744071562067967:=by decide
 rw [BitVec.toNat_and,e1,e2,jgM a ha];have hm:a % 2147483648<2147483648:=Nat.mod_lt _ (by decide);have:((a % 2147483648:Nat):Int)=(a:Int) % 2147483648:=by omega
 rw [this];rw [jba];unfold wrap64;omega
def chk (t x:Int):Bool :=
 if t=1 then decide (0≤x∧x<4294967296∧(x=2143289344∨x % 2147483648≤2139095040))
 else if t=6 then decide (-2147483648≤x∧x≤2147483647)
 else if t=7 then true
 else if t=9 then decide (x=0∨x=1)
 else false
theorem chk6 (x:Int):(x==wrap64 (wrap32 x))=decide (-2147483648≤x∧x≤2147483647):=by
 rw [Bool.eq_iff_iff];simp only [beq_iff_eq,decide_eq_true_eq];unfold wrap64 wrap32;omega
theorem je6 (t x:Int) (h:t=1):chk t x=decide (0≤x∧x<4294967296∧(x=2143289344∨x % 2147483648≤2139095040)):=by
 simp [chk,h]
end Go.Proofs.YtanpkdkenifmbaaGreatDoor.Nu
namespace Go.Proofs.YtanpkdkenifmbaaGreatDoor.Nu
open Go.RowKit
def tob (b:Nat):Int:=if (FloatKind.f32.format.order b b != some .eq)=true then 2143289344 else (b:Int)
def jqh:Option Nat→Int
 | none=>2143289344
 | some r=>tob r
def fb (x:Int):Nat:=(x % 4294967296).toNat
theorem jdW (x:Int):fb x<4294967296:=by unfold fb;omega
theorem jce (d:Ieee.Datum):d.order d=if d.isNaN then none else some .eq:=by
 cases d <;> simp [Ieee.Datum.order,Ieee.Datum.isNaN]
theorem jgh (b:Nat):FloatKind.f32.format.order b b=if (FloatKind.f32.format.read b).isNaN then none else some .eq:=jce _
theorem jr0 (b:Nat):tob b=if (FloatKind.f32.format.read b).isNaN then 2143289344 else (b:Int):=by
 unfold tob;rw [jgh]
 cases (FloatKind.f32.format.read b).isNaN <;> simp
theorem jgi (b:Nat) (_h:b<4294967296):(FloatKind.f32.format.read b).isNaN=decide (2139095040<b % 2147483648):=by
 have e1:FloatKind.f32.format.signWeight=2147483648:=rfl;have e2:FloatKind.f32.format.binade=8388608:=rfl;have e3:FloatKind.f32.format.infRung=2139095040:=rfl;have e4:FloatKind.f32.format.leastPlace = -149:=rfl;unfold Ieee.Format.read;simp only [e1,e2,e3,e4]
 split
 ·simp [Ieee.Datum.isNaN];omega
 ·split
  ·simp [Ieee.Datum.isNaN];omega
  ·split
   ·simp [Ieee.Datum.isNaN];omega
   ·simp [Ieee.Datum.isNaN];omega
theorem jqQ (b:Nat) (h:b<4294967296):tob b=if 2139095040<b % 2147483648 then 2143289344 else (b:Int):=by
 rw [jr0,jgi b h];simp
theorem jqR (t:Nat) (x y:Nat):tob ((Question.nanBits .f32 x y).cut t)=2143289344:=by
 have h1:=Nat.mod_lt t (show 0<2 by decide);have h2:=Nat.mod_lt (t / 2) (show 0<8388607 by decide);have e:(Question.nanBits .f32 x y).cut t=(t % 2)*2147483648+2139095040+1+(t / 2) % 8388607:=rfl;rw [e];generalize t % 2=a at *;generalize t / 2 % 8388607=b at *;rw [jqQ _ (by omega),if_pos (by omega)]
def nb (x y t:Nat):Nat:=(Question.nanBits .f32 x y).cut t
theorem jhN (x y t:Nat):nb x y t<4294967296:=by
 have h1:=Nat.mod_lt t (show 0<2 by decide);have h2:=Nat.mod_lt (t / 2) (show 0<8388607 by decide);have e:nb x y t=(t % 2)*2147483648+2139095040+1+(t / 2) % 8388607:=rfl;rw [e];generalize t % 2=a at *;generalize t / 2 % 8388607=b at *;omega
theorem jgj (x y t:Nat):tob (nb x y t)=2143289344:=jqR t x y
theorem jb6 {P:Program} (w:World) (op:BinOp) (t:TypeId) (x y:Nat) (ho:op=.add∨op=.sub∨op=.mul∨op=.quo) (h:floatBits op .f32 x y=none) :
    (binOp op t (.float .f32 x) (.float .f32 y)).run P w=.ok (.float .f32 (nb x y (w.tape w.drawn (.nanBits .f32 x y)))) w.drew:=by
     unfold floatBits at h
     rcases ho with rfl | rfl | rfl | rfl <;> simp only at h <;> simp [binOp,Op.floatArith,h,nb,Question.forced]
end Go.Proofs.YtanpkdkenifmbaaGreatDoor.Nu
namespace Go.Proofs.YtanpkdkenifmbaaGreatDoor.Nu
open Go.RowKit
def b2i (b:Bool):Int:=if b then 1 else 0
def ord (x y:Nat):Option Ordering:=FloatKind.f32.format.order x y
def jlv (x y:Nat):Int :=
 match ord x y with
 | none=>2143289344
 | some .lt=>tob y
 | some .gt=>tob x
 | some .eq=>if (FloatKind.f32.decode x).neg then tob y else tob x
def jlw (x y:Nat):Int :=
 match ord x y with
 | none=>2143289344
 | some .lt=>tob x
 | some .gt=>tob y
 | some .eq=>if (FloatKind.f32.decode x).neg then tob x else tob y
def jr1 (k:Nat) (x y:Nat):Int×Int :=
 match k with
 | 0=>(jqh (floatBits .add .f32 x y),0)
 | 1=>(jqh (floatBits .sub .f32 x y),0)
 | 2=>(jqh (floatBits .mul .f32 x y),0)
 | 3=>(jqh (floatBits .quo .f32 x y),0)
 | 4=>(jlv x y,0)
 | 5=>(jlw x y,0)
 | 9=>(b2i (ord x y==some .eq),0)
 | 10=>(b2i (ord x y==some .lt),0)
 | 11=>(b2i (ord x y==some .gt),0)
 | _=>(0,1)
def jcy (t n:Int):Int:=if t=6 then wrap64 (wrap32 n) else n
def maxI (x y:Int):Int:=if y > x then y else x
def minI (x y:Int):Int:=if y<x then y else x
def jfg (k:Nat) (t x y:Int):Int×Int :=
 match k with
 | 0=>(jcy t (wrap64 (x+y)),0)
 | 1=>(jcy t (wrap64 (x - y)),0)
 | 2=>(jcy t (wrap64 (x*y)),0)
 | 3=>if y=0 then (0,7) else (jcy t (wrap64 (x.tdiv y)),0)
 | 4=>(jcy t (maxI x y),0)
 | 5=>(jcy t (minI x y),0)
 | 9=>(b2i (x==y),0)
 | 10=>(b2i (decide (x<y)),0)
 | 11=>(b2i (decide (y<x)),0)
 | _=>(0,1)
def jdl (k:Nat) (x y:Int):Int×Int :=
 match k with
 | 6=>(x*y,0)
 | 7=>(x+y - x*y,0)
 | 8=>(x+y - 2*(x*y),0)
 | 9=>(b2i (x==y),0)
 | _=>(0,1)
def bin (k:Nat) (t x y:Int):Int×Int :=
 if (chk t x&&chk t y)=true then (if t=1 then jr1 k (fb x) (fb y) else if t=9 then jdl k x y else jfg k t x y) else (0,1)
section
variable {P : Program} (w : World) (ts : Array TypeId) (t : TypeId) (x y : Nat)
theorem jg0 (h:ord x y=none):(Builtin.max_ ts t #[.float .f32 x,.float .f32 y]).run P w=.ok (.float .f32 (nb x y (w.tape w.drawn (.nanMinMax .f32 true x y)))) w.drew:=by
 unfold ord at h;simp [Builtin.max_,Builtin.max2,h,nb,Question.forced,Question.cut]
theorem jg1 (h:ord x y=none):(Builtin.min_ ts t #[.float .f32 x,.float .f32 y]).run P w=.ok (.float .f32 (nb x y (w.tape w.drawn (.nanMinMax .f32 false x y)))) w.drew:=by
 unfold ord at h;simp [Builtin.min_,Builtin.min2,h,nb,Question.forced,Question.cut]
theorem jiQ (h:ord x y=some .lt):(Builtin.max_ ts t #[.float .f32 x,.float .f32 y]).run P w=.ok (.float .f32 y) w:=by
 unfold ord at h;simp [Builtin.max_,Builtin.max2,h]
theorem jiR (h:ord x y=some .lt):(Builtin.min_ ts t #[.float .f32 x,.float .f32 y]).run P w=.ok (.float .f32 x) w:=by
 unfold ord at h;simp [Builtin.min_,Builtin.min2,h]
theorem jiS (h:ord x y=some .gt):(Builtin.max_ ts t #[.float .f32 x,.float .f32 y]).run P w=.ok (.float .f32 x) w:=by
 unfold ord at h;simp [Builtin.max_,Builtin.max2,h]
theorem jiT (h:ord x y=some .gt):(Builtin.min_ ts t #[.float .f32 x,.float .f32 y]).run P w=.ok (.float .f32 y) w:=by
 unfold ord at h;simp [Builtin.min_,Builtin.min2,h]
theorem jfh (h:ord x y=some .eq):(Builtin.max_ ts t #[.float .f32 x,.float .f32 y]).run P w=.ok (.float .f32 (if (FloatKind.f32.decode x).neg then y else x)) w:=by
 unfold ord at h;simp [Builtin.max_,Builtin.max2,h]
theorem jfi (h:ord x y=some .eq):(Builtin.min_ ts t #[.float .f32 x,.float .f32 y]).run P w=.ok (.float .f32 (if (FloatKind.f32.decode x).neg then x else y)) w:=by
 unfold ord at h;simp [Builtin.min_,Builtin.min2,h]
end
end Go.Proofs.YtanpkdkenifmbaaGreatDoor.Nu
namespace Go.Proofs.YtanpkdkenifmbaaGreatDoor.Nu
open Go.RowKit
theorem jkE (b:Nat) (h:b<4294967296):bits .andNot .u32 (b:Int) 2147483648=((b % 2147483648:Nat):Int):=by
 have e:=u32_andNot_nat b 2147483648 h (by decide);have e':bits .andNot .u32 (b:Int) 2147483648=((b &&& (4294967295 - 2147483648):Nat):Int):=e;rw [e'];have:=Nat.and_two_pow_sub_one_eq_mod b 31;simp only [Nat.reducePow,Nat.reduceSub] at this ⊢;rw [this]
def jrN (b:Nat):Nat:=b ^^^ 2147483648
def jqS (b:Nat):Nat:=b % 2147483648
def jfj (b:Nat):Nat:=if (FloatKind.f32.format.order b 0==some .gt)=true then b else if (FloatKind.f32.format.order b b != some .eq)=true then b else 0
theorem jg2 (b:Nat):Op.unary .neg (.float .f32 b)=pure (.float .f32 (jrN b)):=rfl
theorem jqT (b:Nat) (h:b<4294967296):jrN b=if b<2147483648 then b+2147483648 else b - 2147483648:=by
 unfold jrN;have hd:(b ^^^ 2147483648) / 2 ^ 31=b / 2 ^ 31 ^^^ 2147483648 / 2 ^ 31:=Nat.xor_div_two_pow;have hm:(b ^^^ 2147483648) % 2 ^ 31=b % 2 ^ 31 ^^^ 2147483648 % 2 ^ 31:=Nat.xor_mod_two_pow;have e1:(2147483648:Nat) / 2 ^ 31=1:=by decide
 have e2:(2147483648:Nat) % 2 ^ 31=0:=by decide
 rw [e1] at hd;rw [e2,Nat.xor_zero] at hm;simp only [Nat.reducePow] at hd hm;have hq:b / 2147483648=0∨b / 2147483648=1:=by omega
 rcases hq with hq | hq
 ·rw [hq] at hd;have:(0 ^^^ 1:Nat)=1:=by decide
  rw [this] at hd;rw [if_pos (by omega)];omega
 ·rw [hq] at hd;have:(1 ^^^ 1:Nat)=0:=by decide
  rw [this] at hd;rw [if_neg (by omega)];omega
theorem jmc (b:Nat) (h:b<4294967296):jrN b<4294967296:=by
 rw [jqT b h];split <;> omega
theorem jqU (b:Nat):jqS b<4294967296:=by
 have:=Nat.mod_lt b (show 0<2147483648 by decide);unfold jqS;omega
theorem joV (b:Nat) (h:b<4294967296):jfj b<4294967296:=by
 unfold jfj;split
 ·exact h
 ·split
  ·exact h
  ·omega
def unFl (k:Nat) (b:Nat):Int×Int :=
 match k with
 | 1=>(tob (jrN b),0)
 | 2=>(tob (jqS b),0)
 | 4=>(tob (jfj b),0)
 | _=>(0,1)
def absI (t x:Int):Int:=if x<0 then jcy t (wrap64 (-x)) else x
def unIn (k:Nat) (t x:Int):Int×Int :=
 match k with
 | 1=>(jcy t (wrap64 (-x)),0)
 | 2=>(absI t x,0)
 | _=>(0,1)
def unBo (k:Nat) (x:Int):Int×Int :=
 match k with
 | 3=>(1 - x,0)
 | _=>(0,1)
def un (k:Nat) (t x:Int):Int×Int :=
 if chk t x=true then (if k=0 then (x,0) else if t=1 then unFl k (fb x) else if t=9 then unBo k x else unIn k t x) else (0,1)
end Go.Proofs.YtanpkdkenifmbaaGreatDoor.Nu
namespace Go.Proofs.YtanpkdkenifmbaaGreatDoor.Nu
open Go.RowKit
def joW (op:BinOp) (k:FloatKind) (x y:Nat) (w:World):Nat :=
 match floatBits op k x y with
 | some r=>r
 | none=>(Question.nanBits k x y).cut (w.tape w.drawn (.nanBits k x y))
def fdr (op:BinOp) (k:FloatKind) (x y:Nat):Nat :=
 match floatBits op k x y with
 | some _=>0
 | none=>1
theorem jeT {P:Program} (w:World) (op:BinOp) (t:TypeId) (k:FloatKind) (x y:Nat) (ho:op=.add∨op=.sub∨op=.mul∨op=.quo) :
    (binOp op t (.float k x) (.float k y)).run P w=.ok (.float k (joW op k x y w)) (w.drewN (fdr op k x y)):=by
     cases h:floatBits op k x y with
     | some r=>rw [run_float_arith w op t k x y r h];simp only [joW,fdr,h];rfl
     | none =>
      simp only [joW,fdr,h];unfold floatBits at h
      rcases ho with rfl | rfl | rfl | rfl <;> simp only at h <;> simp [binOp,Op.floatArith,h,Question.forced] <;> rfl
section
variable {P : Program} (w : World) (t : TypeId) (k : FloatKind) (x y : Nat)
theorem jg3:(binOp .add t (.float k x) (.float k y)).run P w=.ok (.float k (joW .add k x y w)) (w.drewN (fdr .add k x y)):=jeT w .add t k x y (by decide)
theorem jg4:(binOp .sub t (.float k x) (.float k y)).run P w=.ok (.float k (joW .sub k x y w)) (w.drewN (fdr .sub k x y)):=jeT w .sub t k x y (by decide)
theorem jg5:(binOp .mul t (.float k x) (.float k y)).run P w=.ok (.float k (joW .mul k x y w)) (w.drewN (fdr .mul k x y)):=jeT w .mul t k x y (by decide)
theorem jg6:(binOp .quo t (.float k x) (.float k y)).run P w=.ok (.float k (joW .quo k x y w)) (w.drewN (fdr .quo k x y)):=jeT w .quo t k x y (by decide)
end
theorem jmd (op:BinOp) (x y:Nat) (w:World):joW op .f32 x y w<4294967296:=by
 unfold joW
 split
 ·rename_i r h;have:=floatBits_wf h;simpa [Lit.wf] using this
 ·exact jhN x y _
def cq (s k:FloatKind) (b:Nat):Question:=if (s.decode b).isNaN then .nanConv k b else .floatToFloat b
def jqV (s k:FloatKind) (b:Nat) (w:World):Nat :=
 match floatToFloatBits s b k with
 | some r=>r
 | none=>(cq s k b).cut (w.tape w.drawn (cq s k b))
def cdr (s k:FloatKind) (b:Nat):Nat :=
 match floatToFloatBits s b k with
 | some _=>0
 | none=>1
theorem jjL {P:Program} (w:World) (src dst:TypeId) (s k:FloatKind) (b:Nat) (hs:(P.underlying src).isSome=true) (hd:P.underlying dst=some (.float k)) :
    (convert src dst (.float s b)).run P w=.ok (.float k (jqV s k b w)) (w.drewN (cdr s k b)):=by
     cases h:floatToFloatBits s b k with
     | some r=>rw [run_convert_float_float w src dst s k b r hs hd h];simp only [jqV,cdr,h];rfl
     | none =>
      simp only [jqV,cdr,h];obtain ⟨u,hs'⟩:=Option.isSome_iff_exists.1 hs;unfold floatToFloatBits at h
      split at h
      ·cases h
      ·rename_i ne
       split at h
       ·rename_i a c he
        cases u <;> simp [convert,run_underlying hs',run_underlying hd,Conv.floatToFloat,ne,he,cq,Ieee.Datum.isNaN,Question.forced] <;> rfl
       ·cases h
       ·rename_i sg m e he
        split at h
        ·rename_i ho
         cases u <;> simp [convert,run_underlying hs',run_underlying hd,Conv.floatToFloat,ne,he,ho,cq,Ieee.Datum.isNaN,Question.forced] <;> rfl
        ·cases h
theorem jfk (b:Nat) (w:World):jqV .f64 .f32 b w<4294967296:=by
 unfold jqV
 split
 ·rename_i r h;unfold floatToFloatBits at h;rw [if_neg (by decide)] at h
  split at h
  ·cases h
  ·cases h;have:=encode_wf .f32 (.infinity ‹_›);simpa [Lit.wf] using this
  ·split at h
   ·cases h
   ·cases h;rename_i a b c _ _;have:=encode_wf .f32 (.number a b c);simpa [Lit.wf] using this
 ·unfold cq
  split
  ·exact jhN b b _
  ·show _ % 2 ^ 32<_;exact Nat.mod_lt _ (by decide)
def ival (s:FloatKind) (k:IntKind) (b:Nat) (w:World):Int :=
 match floatToIntVal s b k with
 | some n=>n
 | none=>k.wrap ((Question.floatToInt s b k).cut (w.tape w.drawn (.floatToInt s b k)))
def idr (s:FloatKind) (k:IntKind) (b:Nat):Nat :=
 match floatToIntVal s b k with
 | some _=>0
 | none=>1
theorem joX {P:Program} (w:World) (src dst:TypeId) (s:FloatKind) (k:IntKind) (b:Nat) (hs:(P.underlying src).isSome=true) (hd:P.underlying dst=some (.int k)) :
    (convert src dst (.float s b)).run P w=.ok (.int k (ival s k b w)) (w.drewN (idr s k b)):=by
     cases h:floatToIntVal s b k with
     | some r=>rw [run_convert_float_int w src dst s k b r hs hd h];simp only [ival,idr,h];rfl
     | none =>
      simp only [ival,idr,h];obtain ⟨u,hs'⟩:=Option.isSome_iff_exists.1 hs;unfold floatToIntVal at h
      split at h
      ·rename_i m he
       split at h
       ·cases h
       ·rename_i hb
        cases u <;> simp [convert,run_underlying hs',run_underlying hd,Conv.floatToInt,he,hb,Question.forced] <;> rfl
      ·rename_i he
       cases u <;> simp [convert,run_underlying hs',run_underlying hd,Conv.floatToInt,he,Question.forced] <;> rfl
end Go.Proofs.YtanpkdkenifmbaaGreatDoor.Nu
namespace Go.Proofs.YtanpkdkenifmbaaGreatDoor
open Go.RowKit
def fin (z:Int):Prop:=0≤z∧z<4294967296∧z % 2147483648<2139095040
end Go.Proofs.YtanpkdkenifmbaaGreatDoor
namespace Go.Proofs.YtanpkdkenifmbaaGreatDoor
open Go.RowKit
theorem jea {α:Type} (f:Nat→List α) (L:Nat):∀ n,(∀ i,i<n→(f i).length=L)→((List.range n).flatMap f).length=n*L
 | 0,_=>by simp
 | n+1,h=>by
  rw [List.range_succ,List.flatMap_append,List.length_append,jea f L n (fun i hi=>h i (by omega))];simp [h n (by omega),Nat.add_mul]
theorem jhO {α:Type} (f:Nat→List α) (L:Nat):∀ n,(∀ i,i<n→(f i).length=L)→∀ t,t<n→(((List.range n).flatMap f).drop (t*L)).take L=f t
 | 0,_,t,ht=>by omega
 | n+1,h,t,ht=>by
  have hl:=jea f L n (fun i hi=>h i (by omega));rw [List.range_succ,List.flatMap_append]
  by_cases hn:t<n
  ·have ih:=jhO f L n (fun i hi=>h i (by omega)) t hn
   have e:t*L+L≤n*L:=by
    rw [show t*L+L=(t+1)*L from by rw [Nat.add_mul];omega];exact Nat.mul_le_mul_right _ (by omega)
   rw [List.drop_append_of_le_length (by omega),List.take_append_of_le_length (by rw [List.length_drop];omega)];exact ih
  ·obtain rfl:t=n:=by omega
   rw [List.drop_append,hl,List.drop_of_length_le (by omega),Nat.sub_self];simp only [List.flatMap_cons,List.flatMap_nil,List.append_nil,List.nil_append,List.drop_zero];exact List.take_of_length_le (by rw [h t ht];exact Nat.le_refl _)
end Go.Proofs.YtanpkdkenifmbaaGreatDoor
