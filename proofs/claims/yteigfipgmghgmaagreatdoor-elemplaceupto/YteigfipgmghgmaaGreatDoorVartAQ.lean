/- A part. -/
import Derived.WalkKit
import Derived.WalkSpells
import Derived.WalkLawsBesides
import Derived.Laws.FloatArith
import Derived.Laws.BitsAllLaws
set_option maxHeartbeats 1000000
namespace Go.Proofs.YteigfipgmghgmaaGreatDoor.Nu
open Go.RowKit
theorem jhs (a:Nat) (h:a<4294967296):a &&& 18446744071562067967=a % 2147483648:=by
 have h1:a &&& 4294967295=a:=by
  have:=Nat.and_two_pow_sub_one_eq_mod a 32;simp only [Nat.reducePow,Nat.reduceSub] at this;rw [this];exact Nat.mod_eq_of_lt h
 have h2:a % 2147483648=a &&& 2147483647:=by
  have:=Nat.and_two_pow_sub_one_eq_mod a 31;simp only [Nat.reducePow,Nat.reduceSub] at this;exact this.symm
 rw [h2]
 conv=>lhs;rw [← h1]
 rw [Nat.and_assoc];have e:(4294967295:Nat) &&& 18446744071562067967=2147483647:=by decide
 rw [e]
theorem jbS (n:Int):IntKind.i64.wrap n=wrap64 n:=by
 simp [IntKind.wrap,IntKind.bits,IntKind.signed,wrap64];split <;> omega
theorem jeX (x:Int) (h0:0≤x) (h:x<4294967296):bits .andNot .i64 x 2147483648=x % 2147483648:=by
 obtain ⟨a,rfl⟩:=Int.eq_ofNat_of_zero_le h0;have ha:a<4294967296:=by omega
 show IntKind.i64.wrap ((BitVec.ofInt 64 (a:Int) &&& ~~~BitVec.ofInt 64 (2147483648:Int)).toNat:Int)=_;have e1:(BitVec.ofInt 64 (a:Int)).toNat=a:=ofInt_u64 a (by omega);have e2:(~~~BitVec.ofInt 64 (2147483648:Int)).toNat=18446744071562067967:=by decide
 rw [BitVec.toNat_and,e1,e2,jhs a ha];have hm:a % 2147483648<2147483648:=Nat.mod_lt _ (by decide);have:((a % 2147483648:Nat):Int)=(a:Int) % 2147483648:=by omega
 rw [this];rw [jbS];unfold wrap64;omega
def chk (t x:Int):Bool :=
 if t=1 then decide (0≤x∧x<4294967296∧(x=2143289344∨x % 2147483648≤2139095040))
 else if t=6 then decide (-2147483648≤x∧x≤2147483647)
 else if t=7 then true
 else if t=9 then decide (x=0∨x=1)
 else false
theorem chk6 (x:Int):(x==wrap64 (wrap32 x))=decide (-2147483648≤x∧x≤2147483647):=by
 rw [Bool.eq_iff_iff];simp only [beq_iff_eq,decide_eq_true_eq];unfold wrap64 wrap32;omega
theorem jfE (t x:Int) (h:t=1):chk t x=decide (0≤x∧x<4294967296∧(x=2143289344∨x % 2147483648≤2139095040)):=by
 simp [chk,h]
end Go.Proofs.YteigfipgmghgmaaGreatDoor.Nu
namespace Go.Proofs.YteigfipgmghgmaaGreatDoor.Nu
open Go.RowKit
def tob (b:Nat):Int:=if (FloatKind.f32.format.order b b != some .eq)=true then 2143289344 else (b:Int)
def tobO:Option Nat→Int
 | none=>2143289344
 | some r=>tob r
def fb (x:Int):Nat:=(x % 4294967296).toNat
theorem jcO (x:Int):fb x<4294967296:=by unfold fb;omega
theorem jby (d:Ieee.Datum):d.order d=if d.isNaN then none else some .eq:=by
 cases d <;> simp [Ieee.Datum.order,Ieee.Datum.isNaN]
theorem jcZ (b:Nat):FloatKind.f32.format.order b b=if (FloatKind.f32.format.read b).isNaN then none else some .eq:=jby _
theorem jr6 (b:Nat):tob b=if (FloatKind.f32.format.read b).isNaN then 2143289344 else (b:Int):=by
 unfold tob;rw [jcZ]
 cases (FloatKind.f32.format.read b).isNaN <;> simp
theorem jbs (b:Nat) (_h:b<4294967296):(FloatKind.f32.format.read b).isNaN=decide (2139095040<b % 2147483648):=by
 have e1:FloatKind.f32.format.signWeight=2147483648:=rfl;have e2:FloatKind.f32.format.binade=8388608:=rfl;have e3:FloatKind.f32.format.infRung=2139095040:=rfl;have e4:FloatKind.f32.format.leastPlace = -149:=rfl;unfold Ieee.Format.read;simp only [e1,e2,e3,e4]
 split
 ·simp [Ieee.Datum.isNaN];omega
 ·split
  ·simp [Ieee.Datum.isNaN];omega
  ·split
   ·simp [Ieee.Datum.isNaN];omega
   ·simp [Ieee.Datum.isNaN];omega
theorem jfO (b:Nat) (h:b<4294967296):tob b=if 2139095040<b % 2147483648 then 2143289344 else (b:Int):=by
 rw [jr6,jbs b h];simp
theorem jhI (t:Nat) (x y:Nat):tob ((Question.nanBits .f32 x y).cut t)=2143289344:=by
 have h1:=Nat.mod_lt t (show 0<2 by decide);have h2:=Nat.mod_lt (t / 2) (show 0<8388607 by decide);have e:(Question.nanBits .f32 x y).cut t=(t % 2)*2147483648+2139095040+1+(t / 2) % 8388607:=rfl;rw [e];generalize t % 2=a at *;generalize t / 2 % 8388607=b at *;rw [jfO _ (by omega),if_pos (by omega)]
def nb (x y t:Nat):Nat:=(Question.nanBits .f32 x y).cut t
theorem jiQ (x y t:Nat):nb x y t<4294967296:=by
 have h1:=Nat.mod_lt t (show 0<2 by decide);have h2:=Nat.mod_lt (t / 2) (show 0<8388607 by decide);have e:nb x y t=(t % 2)*2147483648+2139095040+1+(t / 2) % 8388607:=rfl;rw [e];generalize t % 2=a at *;generalize t / 2 % 8388607=b at *;omega
theorem jfP (x y t:Nat):tob (nb x y t)=2143289344:=jhI t x y
theorem jcm {P:Program} (w:World) (op:BinOp) (t:TypeId) (x y:Nat) (ho:op=.add∨op=.sub∨op=.mul∨op=.quo) (h:floatBits op .f32 x y=none) :
    (binOp op t (.float .f32 x) (.float .f32 y)).run P w=.ok (.float .f32 (nb x y (w.tape w.drawn (.nanBits .f32 x y)))) w.drew:=by
     unfold floatBits at h
     rcases ho with rfl | rfl | rfl | rfl <;> simp only at h <;> simp [binOp,Op.floatArith,h,nb,Question.forced]
end Go.Proofs.YteigfipgmghgmaaGreatDoor.Nu
namespace Go.Proofs.YteigfipgmghgmaaGreatDoor.Nu
open Go.RowKit
def b2i (b:Bool):Int:=if b then 1 else 0
def ord (x y:Nat):Option Ordering:=FloatKind.f32.format.order x y
def maxF (x y:Nat):Int :=
 match ord x y with
 | none=>2143289344
 | some .lt=>tob y
 | some .gt=>tob x
 | some .eq=>if (FloatKind.f32.decode x).neg then tob y else tob x
def minF (x y:Nat):Int :=
 match ord x y with
 | none=>2143289344
 | some .lt=>tob x
 | some .gt=>tob y
 | some .eq=>if (FloatKind.f32.decode x).neg then tob x else tob y
def binFl (k:Nat) (x y:Nat):Int×Int :=
 match k with
 | 0=>(tobO (floatBits .add .f32 x y),0)
 | 1=>(tobO (floatBits .sub .f32 x y),0)
 | 2=>(tobO (floatBits .mul .f32 x y),0)
 | 3=>(tobO (floatBits .quo .f32 x y),0)
 | 4=>(maxF x y,0)
 | 5=>(minF x y,0)
 | 9=>(b2i (ord x y==some .eq),0)
 | 10=>(b2i (ord x y==some .lt),0)
 | 11=>(b2i (ord x y==some .gt),0)
 | _=>(0,1)
def wrapT (t n:Int):Int:=if t=6 then wrap64 (wrap32 n) else n
def maxI (x y:Int):Int:=if y > x then y else x
def minI (x y:Int):Int:=if y<x then y else x
def binIn (k:Nat) (t x y:Int):Int×Int :=
 match k with
 | 0=>(wrapT t (wrap64 (x+y)),0)
 | 1=>(wrapT t (wrap64 (x - y)),0)
 | 2=>(wrapT t (wrap64 (x*y)),0)
 | 3=>if y=0 then (0,7) else (wrapT t (wrap64 (x.tdiv y)),0)
 | 4=>(wrapT t (maxI x y),0)
 | 5=>(wrapT t (minI x y),0)
 | 9=>(b2i (x==y),0)
 | 10=>(b2i (decide (x<y)),0)
 | 11=>(b2i (decide (y<x)),0)
 | _=>(0,1)
def binBo (k:Nat) (x y:Int):Int×Int :=
 match k with
 | 6=>(x*y,0)
 | 7=>(x+y - x*y,0)
 | 8=>(x+y - 2*(x*y),0)
 | 9=>(b2i (x==y),0)
 | _=>(0,1)
def bin (k:Nat) (t x y:Int):Int×Int :=
 if (chk t x&&chk t y)=true then (if t=1 then binFl k (fb x) (fb y) else if t=9 then binBo k x y else binIn k t x y) else (0,1)
section
variable {P : Program} (w : World) (ts : Array TypeId) (t : TypeId) (x y : Nat)
theorem jhJ (h:ord x y=none):(Builtin.max_ ts t #[.float .f32 x,.float .f32 y]).run P w=.ok (.float .f32 (nb x y (w.tape w.drawn (.nanMinMax .f32 true x y)))) w.drew:=by
 unfold ord at h;simp [Builtin.max_,Builtin.max2,h,nb,Question.forced,Question.cut]
theorem jhK (h:ord x y=none):(Builtin.min_ ts t #[.float .f32 x,.float .f32 y]).run P w=.ok (.float .f32 (nb x y (w.tape w.drawn (.nanMinMax .f32 false x y)))) w.drew:=by
 unfold ord at h;simp [Builtin.min_,Builtin.min2,h,nb,Question.forced,Question.cut]
theorem jj0 (h:ord x y=some .lt):(Builtin.max_ ts t #[.float .f32 x,.float .f32 y]).run P w=.ok (.float .f32 y) w:=by
 unfold ord at h;simp [Builtin.max_,Builtin.max2,h]
theorem jj1 (h:ord x y=some .lt):(Builtin.min_ ts t #[.float .f32 x,.float .f32 y]).run P w=.ok (.float .f32 x) w:=by
 unfold ord at h;simp [Builtin.min_,Builtin.min2,h]
theorem jj2 (h:ord x y=some .gt):(Builtin.max_ ts t #[.float .f32 x,.float .f32 y]).run P w=.ok (.float .f32 x) w:=by
 unfold ord at h;simp [Builtin.max_,Builtin.max2,h]
theorem jj3 (h:ord x y=some .gt):(Builtin.min_ ts t #[.float .f32 x,.float .f32 y]).run P w=.ok (.float .f32 y) w:=by
 unfold ord at h;simp [Builtin.min_,Builtin.min2,h]
theorem jfQ (h:ord x y=some .eq):(Builtin.max_ ts t #[.float .f32 x,.float .f32 y]).run P w=.ok (.float .f32 (if (FloatKind.f32.decode x).neg then y else x)) w:=by
 unfold ord at h;simp [Builtin.max_,Builtin.max2,h]
theorem jfR (h:ord x y=some .eq):(Builtin.min_ ts t #[.float .f32 x,.float .f32 y]).run P w=.ok (.float .f32 (if (FloatKind.f32.decode x).neg then x else y)) w:=by
 unfold ord at h;simp [Builtin.min_,Builtin.min2,h]
end
end Go.Proofs.YteigfipgmghgmaaGreatDoor.Nu
namespace Go.Proofs.YteigfipgmghgmaaGreatDoor.Nu
open Go.RowKit
theorem jgT (b:Nat) (h:b<4294967296):bits .andNot .u32 (b:Int) 2147483648=((b % 2147483648:Nat):Int):=by
 have e:=u32_andNot_nat b 2147483648 h (by decide);have e':bits .andNot .u32 (b:Int) 2147483648=((b &&& (4294967295 - 2147483648):Nat):Int):=e;rw [e'];have:=Nat.and_two_pow_sub_one_eq_mod b 31;simp only [Nat.reducePow,Nat.reduceSub] at this ⊢;rw [this]
def negF (b:Nat):Nat:=b ^^^ 2147483648
def absF (b:Nat):Nat:=b % 2147483648
def jfS (b:Nat):Nat:=if (FloatKind.f32.format.order b 0==some .gt)=true then b else if (FloatKind.f32.format.order b b != some .eq)=true then b else 0
theorem jcf (b:Nat):Op.unary .neg (.float .f32 b)=pure (.float .f32 (negF b)):=rfl
theorem jsR (b:Nat) (h:b<4294967296):negF b=if b<2147483648 then b+2147483648 else b - 2147483648:=by
 unfold negF;have hd:(b ^^^ 2147483648) / 2 ^ 31=b / 2 ^ 31 ^^^ 2147483648 / 2 ^ 31:=Nat.xor_div_two_pow;have hm:(b ^^^ 2147483648) % 2 ^ 31=b % 2 ^ 31 ^^^ 2147483648 % 2 ^ 31:=Nat.xor_mod_two_pow;have e1:(2147483648:Nat) / 2 ^ 31=1:=by decide
 have e2:(2147483648:Nat) % 2 ^ 31=0:=by decide
 rw [e1] at hd;rw [e2,Nat.xor_zero] at hm;simp only [Nat.reducePow] at hd hm;have hq:b / 2147483648=0∨b / 2147483648=1:=by omega
 rcases hq with hq | hq
 ·rw [hq] at hd;have:(0 ^^^ 1:Nat)=1:=by decide
  rw [this] at hd;rw [if_pos (by omega)];omega
 ·rw [hq] at hd;have:(1 ^^^ 1:Nat)=0:=by decide
  rw [this] at hd;rw [if_neg (by omega)];omega
theorem negF_lt (b:Nat) (h:b<4294967296):negF b<4294967296:=by
 rw [jsR b h];split <;> omega
theorem absF_lt (b:Nat):absF b<4294967296:=by
 have:=Nat.mod_lt b (show 0<2147483648 by decide);unfold absF;omega
theorem reluF_lt (b:Nat) (h:b<4294967296):jfS b<4294967296:=by
 unfold jfS;split
 ·exact h
 ·split
  ·exact h
  ·omega
def unFl (k:Nat) (b:Nat):Int×Int :=
 match k with
 | 1=>(tob (negF b),0)
 | 2=>(tob (absF b),0)
 | 4=>(tob (jfS b),0)
 | _=>(0,1)
def absI (t x:Int):Int:=if x<0 then wrapT t (wrap64 (-x)) else x
def unIn (k:Nat) (t x:Int):Int×Int :=
 match k with
 | 1=>(wrapT t (wrap64 (-x)),0)
 | 2=>(absI t x,0)
 | _=>(0,1)
def unBo (k:Nat) (x:Int):Int×Int :=
 match k with
 | 3=>(1 - x,0)
 | _=>(0,1)
def un (k:Nat) (t x:Int):Int×Int :=
 if chk t x=true then (if k=0 then (x,0) else if t=1 then unFl k (fb x) else if t=9 then unBo k x else unIn k t x) else (0,1)
end Go.Proofs.YteigfipgmghgmaaGreatDoor.Nu
namespace Go.Proofs.YteigfipgmghgmaaGreatDoor.Nu
open Go.RowKit
def jdv (op:BinOp) (k:FloatKind) (x y:Nat) (w:World):Nat :=
 match floatBits op k x y with
 | some r=>r
 | none=>(Question.nanBits k x y).cut (w.tape w.drawn (.nanBits k x y))
def fdr (op:BinOp) (k:FloatKind) (x y:Nat):Nat :=
 match floatBits op k x y with
 | some _=>0
 | none=>1
theorem jfr {P:Program} (w:World) (op:BinOp) (t:TypeId) (k:FloatKind) (x y:Nat) (ho:op=.add∨op=.sub∨op=.mul∨op=.quo) :
    (binOp op t (.float k x) (.float k y)).run P w=.ok (.float k (jdv op k x y w)) (w.drewN (fdr op k x y)):=by
     cases h:floatBits op k x y with
     | some r=>rw [run_float_arith w op t k x y r h];simp only [jdv,fdr,h];rfl
     | none =>
      simp only [jdv,fdr,h];unfold floatBits at h
      rcases ho with rfl | rfl | rfl | rfl <;> simp only at h <;> simp [binOp,Op.floatArith,h,Question.forced] <;> rfl
section
variable {P : Program} (w : World) (t : TypeId) (k : FloatKind) (x y : Nat)
theorem jdY:(binOp .add t (.float k x) (.float k y)).run P w=.ok (.float k (jdv .add k x y w)) (w.drewN (fdr .add k x y)):=jfr w .add t k x y (by decide)
theorem jdZ:(binOp .sub t (.float k x) (.float k y)).run P w=.ok (.float k (jdv .sub k x y w)) (w.drewN (fdr .sub k x y)):=jfr w .sub t k x y (by decide)
theorem jd0:(binOp .mul t (.float k x) (.float k y)).run P w=.ok (.float k (jdv .mul k x y w)) (w.drewN (fdr .mul k x y)):=jfr w .mul t k x y (by decide)
theorem jd1:(binOp .quo t (.float k x) (.float k y)).run P w=.ok (.float k (jdv .quo k x y w)) (w.drewN (fdr .quo k x y)):=jfr w .quo t k x y (by decide)
end
theorem je3 (op:BinOp) (x y:Nat) (w:World):jdv op .f32 x y w<4294967296:=by
 unfold jdv
 split
 ·rename_i r h;have:=floatBits_wf h;simpa [Lit.wf] using this
 ·exact jiQ x y _
def cq (s k:FloatKind) (b:Nat):Question:=if (s.decode b).isNaN then .nanConv k b else .floatToFloat b
def cval (s k:FloatKind) (b:Nat) (w:World):Nat :=
 match floatToFloatBits s b k with
 | some r=>r
 | none=>(cq s k b).cut (w.tape w.drawn (cq s k b))
def cdr (s k:FloatKind) (b:Nat):Nat :=
 match floatToFloatBits s b k with
 | some _=>0
 | none=>1
theorem jla {P:Program} (w:World) (src dst:TypeId) (s k:FloatKind) (b:Nat) (hs:(P.underlying src).isSome=true) (hd:P.underlying dst=some (.float k)) :
    (convert src dst (.float s b)).run P w=.ok (.float k (cval s k b w)) (w.drewN (cdr s k b)):=by
     cases h:floatToFloatBits s b k with
     | some r=>rw [run_convert_float_float w src dst s k b r hs hd h];simp only [cval,cdr,h];rfl
     | none =>
      simp only [cval,cdr,h];obtain ⟨u,hs'⟩:=Option.isSome_iff_exists.1 hs;unfold floatToFloatBits at h
      split at h
      ·cases h
      ·rename_i ne
       split at h
       ·rename_i a c he
        cases u <;> simp [convert,run_underlying hs',run_underlying hd,Conv.floatToFloat,ne,he,cq,Ieee.Datum.isNaN,Question.forced] <;> rfl
       ·cases h
       ·rename_i sg m e he
        split at h
        ·rename_i ho
         cases u <;> simp [convert,run_underlying hs',run_underlying hd,Conv.floatToFloat,ne,he,ho,cq,Ieee.Datum.isNaN,Question.forced] <;> rfl
        ·cases h
theorem cval_lt (b:Nat) (w:World):cval .f64 .f32 b w<4294967296:=by
 unfold cval
 split
 ·rename_i r h;unfold floatToFloatBits at h;rw [if_neg (by decide)] at h
  split at h
  ·cases h
  ·cases h;have:=encode_wf .f32 (.infinity ‹_›);simpa [Lit.wf] using this
  ·split at h
   ·cases h
   ·cases h;rename_i a b c _ _;have:=encode_wf .f32 (.number a b c);simpa [Lit.wf] using this
 ·unfold cq
  split
  ·exact jiQ b b _
  ·show _ % 2 ^ 32<_;exact Nat.mod_lt _ (by decide)
def ival (s:FloatKind) (k:IntKind) (b:Nat) (w:World):Int :=
 match floatToIntVal s b k with
 | some n=>n
 | none=>k.wrap ((Question.floatToInt s b k).cut (w.tape w.drawn (.floatToInt s b k)))
def idr (s:FloatKind) (k:IntKind) (b:Nat):Nat :=
 match floatToIntVal s b k with
 | some _=>0
 | none=>1
theorem jqC {P:Program} (w:World) (src dst:TypeId) (s:FloatKind) (k:IntKind) (b:Nat) (hs:(P.underlying src).isSome=true) (hd:P.underlying dst=some (.int k)) :
    (convert src dst (.float s b)).run P w=.ok (.int k (ival s k b w)) (w.drewN (idr s k b)):=by
     cases h:floatToIntVal s b k with
     | some r=>rw [run_convert_float_int w src dst s k b r hs hd h];simp only [ival,idr,h];rfl
     | none =>
      simp only [ival,idr,h];obtain ⟨u,hs'⟩:=Option.isSome_iff_exists.1 hs;unfold floatToIntVal at h
      split at h
      ·rename_i m he
       split at h
       ·cases h
       ·rename_i hb
        cases u <;> simp [convert,run_underlying hs',run_underlying hd,Conv.floatToInt,he,hb,Question.forced] <;> rfl
      ·rename_i he
       cases u <;> simp [convert,run_underlying hs',run_underlying hd,Conv.floatToInt,he,Question.forced] <;> rfl
end Go.Proofs.YteigfipgmghgmaaGreatDoor.Nu
namespace Go.Proofs.YteigfipgmghgmaaGreatDoor.Nu
open Go.RowKit
def rdm (neg:Bool) (rung:Nat):Ieee.Datum :=
 if rung<8388608 then .number neg rung (-149)
 else if rung<2139095040 then .number neg (8388608+rung % 8388608) (-149+(rung / 8388608 - 1:Nat))
 else if rung=2139095040 then .infinity neg
 else .nan neg (rung - 2139095040)
theorem jcg (b:Nat) (h:b<4294967296):FloatKind.f32.format.read b=rdm (decide (2147483648≤b)) (b % 2147483648):=by
 have e1:FloatKind.f32.format.signWeight=2147483648:=rfl;have e2:FloatKind.f32.format.binade=8388608:=rfl;have e3:FloatKind.f32.format.infRung=2139095040:=rfl;have e4:FloatKind.f32.format.leastPlace = -149:=rfl
 have e5:(b / 2147483648 % 2==1)=decide (2147483648≤b):=by
  rw [Bool.eq_iff_iff];simp only [beq_iff_eq,decide_eq_true_eq];omega
 unfold Ieee.Format.read rdm;simp only [e1,e2,e3,e4,e5]
theorem jiR (s:Bool) (r:Nat):(rdm s r).opposite=rdm (!s) r:=by
 unfold rdm
 split
 ·rfl
 ·split
  ·rfl
  ·split <;> rfl
theorem jl2 (x y:Ieee.Datum):x.order y=none↔x.isNaN=true∨y.isNaN=true:=by
 cases x <;> cases y <;> simp [Ieee.Datum.order,Ieee.Datum.isNaN]
theorem jnz (x y:Ieee.Datum) (h:y.isNaN=true):x.sum y=none:=by
 cases y with
 | nan s t=>cases x <;> rfl
 | _=>cases h
end Go.Proofs.YteigfipgmghgmaaGreatDoor.Nu
namespace Go.Proofs.YteigfipgmghgmaaGreatDoor.Nu
open Go.RowKit
theorem jb3 {a b:Int} (h:a<b):compare a b=.lt:=by simp [compare,compareOfLessAndEq,h]
theorem jbM {a b:Int} (h:b<a):compare a b=.gt:=by
 have h1:¬ a<b:=by omega
 have h2:¬ a=b:=by omega
 simp [compare,compareOfLessAndEq,h1,h2]
theorem jcc {a b:Int} (h:a=b):compare a b=.eq:=by simp [compare,compareOfLessAndEq,h]
end Go.Proofs.YteigfipgmghgmaaGreatDoor.Nu
namespace Go.Proofs.YteigfipgmghgmaaGreatDoor.Nu
open Go.RowKit
theorem jqD (x y:Ieee.Datum):x.sum y=y.sum x:=by
 cases x with
 | nan s t=>cases y <;> rfl
 | infinity s=>cases y with
  | nan=>rfl
  | infinity t=>cases s <;> cases t <;> rfl
  | number=>rfl
 | number s m i=>cases y with
  | nan=>rfl
  | infinity t=>rfl
  | number t n j =>
   simp only [Ieee.Datum.sum];rw [Int.min_comm j i,Int.add_comm,Bool.and_comm]
def val (r:Nat):Nat:=if r<8388608 then r else (8388608+r % 8388608)*2 ^ (r / 8388608 - 1)
theorem juu (r:Nat) (h:8388608≤r):2 ^ (22+r / 8388608)≤val r:=by
 unfold val;rw [if_neg (by omega)];have e:22+r / 8388608=23+(r / 8388608 - 1):=by omega
 rw [e,Nat.pow_add];exact Nat.mul_le_mul_right _ (by omega)
theorem juv (r:Nat):val r<2 ^ (23+r / 8388608):=by
 unfold val
 by_cases h:r<8388608
 ·rw [if_pos h,show r / 8388608=0 from by omega];omega
 ·rw [if_neg h];have e:23+r / 8388608=24+(r / 8388608 - 1):=by omega
  rw [e,Nat.pow_add];exact Nat.mul_lt_mul_of_pos_right (by have:=Nat.mod_lt r (show 0<8388608 by decide);omega) (Nat.two_pow_pos _)
theorem jeG (r s:Nat) (h:r<s):val r<val s:=by
 by_cases he:r / 8388608=s / 8388608
 ·unfold val
  by_cases h1:s<8388608
  ·rw [if_pos (by omega),if_pos h1];exact h
  ·rw [if_neg (by omega),if_neg h1,he];exact Nat.mul_lt_mul_of_pos_right (by omega) (Nat.two_pow_pos _)
 ·have hlt:r / 8388608<s / 8388608:=by omega
  have h1:=juv r;have h2:=juu s (by omega);have h3:2 ^ (23+r / 8388608)≤2 ^ (22+s / 8388608):=Nat.pow_le_pow_right (by decide) (by omega);omega
theorem jsS (r s:Nat) (h:val r=val s):r=s:=by
 rcases Nat.lt_trichotomy r s with h1 | h1 | h1
 ·have:=jeG r s h1;omega
 ·exact h1
 ·have:=jeG s r h1;omega
theorem jcu (s:Bool) (r:Nat) (h:r<2139095040):∃ (m:Nat) (d:Nat),rdm s r=.number s m (-149+(d:Int))∧val r=m*2 ^ d:=by
 unfold rdm val
 by_cases h1:r<8388608
 ·rw [if_pos h1,if_pos h1];exact ⟨r,0,by simp,by simp⟩
 ·rw [if_neg h1,if_neg h1,if_pos h];exact ⟨_,r / 8388608 - 1,rfl,rfl⟩
theorem juw (m n d e:Nat) (b:Int) (hb:b=min (-149+(d:Int)) (-149+(e:Int))) :
    ∃ k:Nat,m*2 ^ d=(m <<< (-149+(d:Int) - b).toNat)*2 ^ k∧n*2 ^ e=(n <<< (-149+(e:Int) - b).toNat)*2 ^ k:=by
     refine ⟨(b+149).toNat,?_,?_⟩
     ·rw [Nat.shiftLeft_eq,Nat.mul_assoc,← Nat.pow_add];congr 2;omega
     ·rw [Nat.shiftLeft_eq,Nat.mul_assoc,← Nat.pow_add];congr 2;omega
theorem jd2 (s:Bool) (r t:Nat) (hr:r<2139095040) (ht:t<2139095040):(rdm s r).order (rdm s t)=some (if s then compare (val t:Int) (val r) else compare (val r:Int) (val t)):=by
 obtain ⟨m,d,e1,v1⟩:=jcu s r hr;obtain ⟨n,e,e2,v2⟩:=jcu s t ht;rw [e1,e2,v1,v2];simp only [Ieee.Datum.order,Option.some.injEq,Ieee.signed];obtain ⟨k,h1,h2⟩:=juw m n d e _ rfl;rw [h1,h2];generalize m <<< (-149+(d:Int) - min (-149+(d:Int)) (-149+(e:Int))).toNat=a;generalize n <<< (-149+(e:Int) - min (-149+(d:Int)) (-149+(e:Int))).toNat=b;have pk:0<2 ^ k:=Nat.two_pow_pos k
 have key:∀ a b:Nat,compare (a:Int) b=compare ((a*2 ^ k:Nat):Int) ((b*2 ^ k:Nat):Int):=by
  intro a b
  rcases Nat.lt_trichotomy a b with h | h | h
  ·have:=Nat.mul_lt_mul_of_pos_right h pk;rw [jb3 (by omega),jb3 (by omega)]
  ·subst h;rw [jcc rfl,jcc rfl]
  ·have:=Nat.mul_lt_mul_of_pos_right h pk;rw [jbM (by omega),jbM (by omega)]
 cases s with
 | false=>exact key a b
 | true =>
  have:compare (-(a:Int)) (-(b:Int))=compare (b:Int) a:=by
   rcases Int.lt_trichotomy (a:Int) b with h | h | h
   ·rw [jbM (by omega),jbM (by omega)]
   ·rw [jcc (by omega),jcc (by omega)]
   ·rw [jb3 (by omega),jb3 (by omega)]
  simp only [if_true];rw [this];exact key b a
end Go.Proofs.YteigfipgmghgmaaGreatDoor.Nu
namespace Go.Proofs.YteigfipgmghgmaaGreatDoor.Nu
open Go.RowKit
theorem jhL (s:Bool) (n d:Nat):Ieee.Toward.zero.cut s n d=n / 2 ^ d:=by
 unfold Ieee.Toward.cut;simp only [Bool.toNat_false,Nat.add_zero,Nat.shiftLeft_eq,Nat.one_mul]
 by_cases h:d≤n.log2+2
 ·rw [Nat.min_eq_left h]
 ·rw [Nat.min_eq_right (by omega)];have h1:n<2 ^ (n.log2+2):=Nat.lt_of_lt_of_le Nat.lt_log2_self (Nat.pow_le_pow_right (by decide) (by omega));have h2:n<2 ^ d:=Nat.lt_of_lt_of_le h1 (Nat.pow_le_pow_right (by decide) (by omega));rw [Nat.div_eq_of_lt h1,Nat.div_eq_of_lt h2]
def jbV (m:Nat) (i:Int):Nat:=m*2 ^ (i+250).toNat
theorem jsT (s:Bool) (m:Nat) (i:Int) (hi : -250≤i):(Ieee.Datum.number s m i).toInt .zero=some (if s then -((jbV m i / 2 ^ 250:Nat):Int) else ((jbV m i / 2 ^ 250:Nat):Int)):=by
 have e:jbV m i / 2 ^ 250=(m <<< i.toNat) / 2 ^ (-i).toNat:=by
  unfold jbV;rw [Nat.shiftLeft_eq]
  by_cases h:0≤i
  ·have e1:(i+250).toNat=i.toNat+250:=by omega
   have e2:(-i).toNat=0:=by omega
   rw [e1,e2,Nat.pow_add,← Nat.mul_assoc,Nat.mul_div_cancel _ (Nat.two_pow_pos _),Nat.pow_zero,Nat.div_one]
  ·have e1:i.toNat=0:=by omega
   have e2:(250:Nat)=(-i).toNat+(i+250).toNat:=by omega
   rw [e1,Nat.pow_zero,Nat.mul_one]
   conv=>lhs;rw [show (2:Nat) ^ 250=2 ^ ((-i).toNat+(i+250).toNat) from congrArg _ e2]
   rw [Nat.pow_add,Nat.mul_div_mul_right _ _ (Nat.two_pow_pos _)]
 simp only [Ieee.Datum.toInt,Ieee.Datum.integral,jhL,Ieee.signed,Nat.shiftLeft_zero,e]
theorem jqE (m n:Nat) (i j b:Int) (hi : -250≤i) (hj : -250≤j) (hb:b=min i j) :
    ∃ k:Nat,jbV m i=(m <<< (i - b).toNat)*2 ^ k∧jbV n j=(n <<< (j - b).toNat)*2 ^ k:=by
     refine ⟨(b+250).toNat,?_,?_⟩
     ·unfold jbV;rw [Nat.shiftLeft_eq,Nat.mul_assoc,← Nat.pow_add];congr 2;omega
     ·unfold jbV;rw [Nat.shiftLeft_eq,Nat.mul_assoc,← Nat.pow_add];congr 2;omega
theorem jsU (s t:Bool) (m n:Nat) (i j:Int) (hi : -250≤i) (hj : -250≤j):(Ieee.Datum.number s m i).order (.number t n j)=some (compare (if s then -(jbV m i:Int) else (jbV m i:Int)) (if t then -(jbV n j:Int) else (jbV n j:Int))):=by
 simp only [Ieee.Datum.order,Option.some.injEq,Ieee.signed];obtain ⟨k,h1,h2⟩:=jqE m n i j _ hi hj rfl;rw [h1,h2];generalize m <<< (i - min i j).toNat=a;generalize n <<< (j - min i j).toNat=b;have pk:(0:Int)<2 ^ k:=by have:=Nat.two_pow_pos k;exact_mod_cast this
 have key:∀ p q:Int,compare p q=compare (p*2 ^ k) (q*2 ^ k):=by
  intro p q
  rcases Int.lt_trichotomy p q with h | h | h
  ·rw [jb3 h,jb3 (Int.mul_lt_mul_of_pos_right h pk)]
  ·subst h;rw [jcc rfl,jcc rfl]
  ·rw [jbM h,jbM (Int.mul_lt_mul_of_pos_right h pk)]
 rw [key]
 congr 1
 ·cases s <;> simp [Int.neg_mul]
 ·cases t <;> simp [Int.neg_mul]
theorem jnA (s:Bool) (n:Nat):Ieee.Toward.even.cut s n 0=n:=by
 unfold Ieee.Toward.cut;have e:min 0 (n.log2+2)=0:=by omega
 rw [e];have e2:(1:Nat) <<< 0=1:=rfl;rw [e2];simp only [Nat.mod_one,Nat.div_one]
 rfl
theorem jsV (m:Nat) (h:m≠0):2 ^ m.log2≤m∧m<2 ^ (m.log2+1):=⟨Nat.log2_self_le h,Nat.lt_log2_self⟩
theorem jgU (s:Bool) (r:Nat) (h:r<9223372036854775808):Ieee.double.word s r % 9223372036854775808=r∧(Ieee.double.word s r / 9223372036854775808 % 2==1)=s:=by
 have e5:Ieee.double.signWeight=9223372036854775808:=rfl;unfold Ieee.Format.word;rw [e5]
 cases s with
 | false =>
  rw [if_neg (by decide)];exact ⟨Nat.mod_eq_of_lt h,by rw [Nat.div_eq_of_lt h];rfl⟩
 | true =>
  rw [if_pos rfl];have:(9223372036854775808+r) / 9223372036854775808=1:=by omega
  exact ⟨by omega,by rw [this];rfl⟩
theorem jnB (s:Bool) (E K:Nat) (k1:4503599627370496≤K) (k2:K<9007199254740992) (hE:E≤1974):Ieee.double.read (Ieee.double.word s (E*4503599627370496+K))=.number s K (-1074+(E:Int)):=by
 have e1:Ieee.double.leastPlace = -1074:=rfl;have e2:Ieee.double.binade=4503599627370496:=rfl;have e3:Ieee.double.infRung=9218868437227405312:=rfl;have e5:Ieee.double.signWeight=9223372036854775808:=rfl;obtain ⟨w1,w2⟩:=jgU s (E*4503599627370496+K) (by omega);unfold Ieee.Format.read;simp only [e1,e2,e3,e5];rw [w1,w2,if_neg (by omega),if_pos (by omega)];have q1:4503599627370496+(E*4503599627370496+K) % 4503599627370496=K:=by omega
 have q2:(E*4503599627370496+K) / 4503599627370496 - 1=E:=by omega
 rw [q1,q2]
theorem jgV (E K:Nat) (hE:E≤1974) (k2:K<9007199254740992):E*4503599627370496+K<9218868437227405312:=by omega
theorem jnC (E K:Nat) (hE:E≤1974) (k2:K<9007199254740992):min (E*4503599627370496+K) 9218868437227405312=E*4503599627370496+K :=
 Nat.min_eq_left (Nat.le_of_lt (jgV E K hE k2))
theorem jj4 (s:Bool) (m:Nat) (p:Int) (h0:m≠0) (hm:m<2 ^ 53) (hp : -1000≤p) (hq:p≤900) :
    ∃ (r:Nat),Ieee.double.nearest s m p=Ieee.double.word s r∧r<9218868437227405312∧Ieee.double.read (Ieee.double.word s r)=.number s (m*2 ^ (52 - m.log2)) (p - (52 - m.log2:Nat)):=by
     obtain ⟨l1,l2⟩:=jsV m h0
     have hl:m.log2≤52:=by
      have:=(Nat.log2_lt h0).2 hm;omega
     have e1:Ieee.double.leastPlace = -1074:=rfl;have e2:Ieee.double.binade=4503599627370496:=rfl;have e3:Ieee.double.infRung=9218868437227405312:=rfl;have e4:Ieee.double.fractionBits=52:=rfl
     have k1:4503599627370496≤m*2 ^ (52 - m.log2):=by
      have:2 ^ m.log2*2 ^ (52 - m.log2)≤m*2 ^ (52 - m.log2):=Nat.mul_le_mul_right _ l1;rw [← Nat.pow_add,show m.log2+(52 - m.log2)=52 from by omega] at this;simpa using this
     have k2:m*2 ^ (52 - m.log2)<9007199254740992:=by
      have:m*2 ^ (52 - m.log2)<2 ^ (m.log2+1)*2 ^ (52 - m.log2):=Nat.mul_lt_mul_of_pos_right l2 (Nat.two_pow_pos _);rw [← Nat.pow_add,show m.log2+1+(52 - m.log2)=53 from by omega] at this;simpa using this
     have hlast:max (p+m.log2 - 52) (-1074)=p - (52 - m.log2:Nat):=by omega
     have hnear:Ieee.double.nearest s m p=Ieee.double.word s (min ((p - (52 - m.log2:Nat) - -1074).toNat*4503599627370496+m*2 ^ (52 - m.log2)) 9218868437227405312):=by
      unfold Ieee.Format.nearest;rw [if_neg h0];simp only [e1,e2,e3,e4];have hc:max (p+(m.log2:Int) - ((52:Nat):Int)) (-1074)=p - (52 - m.log2:Nat):=hlast;rw [hc];have d1:(p - (p - ((52 - m.log2:Nat):Int))).toNat=52 - m.log2:=by omega
      have d2:(p - ((52 - m.log2:Nat):Int) - p).toNat=0:=by omega
      rw [d1,d2];rw [jnA,Nat.shiftLeft_eq]
     generalize hK:m*2 ^ (52 - m.log2)=K at *;generalize hE:(p - (52 - m.log2:Nat) - -1074).toNat=E at *;have hEb:E≤1974:=by omega
     have hEp:p - (52 - m.log2:Nat) = -1074+(E:Int):=by omega
     have hmin:min (E*4503599627370496+K) 9218868437227405312=E*4503599627370496+K:=jnC E K hEb k2;rw [hmin] at hnear;refine ⟨E*4503599627370496+K,hnear,jgV E K hEb k2,?_⟩;rw [hEp];exact jnB s E K k1 k2 hEb
end Go.Proofs.YteigfipgmghgmaaGreatDoor.Nu
namespace Go.Proofs.YteigfipgmghgmaaGreatDoor.Nu
open Go.RowKit
def cv (b:Nat):Nat:=FloatKind.f64.encode (FloatKind.f32.decode b)
theorem jgW (b m d:Nat) (e1:rdm (decide (2147483648≤b)) (b % 2147483648)=.number (decide (2147483648≤b)) m (-149+(d:Int))):m<16777216∧d≤254:=by
 unfold rdm at e1
 split at e1
 ·injection e1 with _ h2 h3;omega
 ·split at e1
  ·injection e1 with _ h2 h3;omega
  ·split at e1 <;> cases e1
theorem jlb (b:Nat) (hb:b<4294967296) (h:b % 2147483648<2139095040) :
    ∃ (m:Nat) (i:Int),FloatKind.f64.format.read (cv b)=.number (decide (2147483648≤b)) m i∧(m=0∧b % 2147483648=0 ∨ -250≤i∧jbV m i=val (b % 2147483648)*2 ^ 101)∧floatToFloatBits .f32 b .f64=some (cv b):=by
     have hd:FloatKind.f32.decode b=rdm (decide (2147483648≤b)) (b % 2147483648):=jcg b hb;obtain ⟨m,d,e1,v1⟩:=jcu (decide (2147483648≤b)) (b % 2147483648) h
     by_cases h0:m=0
     ·have hv:val (b % 2147483648)=val 0:=by rw [v1,h0,Nat.zero_mul];rfl
      have hr:=jsS _ _ hv;subst h0
      have ec:cv b=Ieee.double.word (decide (2147483648≤b)) 0:=by
       unfold cv;rw [hd,e1];rfl
      have er:FloatKind.f64.format.read (cv b)=.number (decide (2147483648≤b)) 0 (-1074):=by
       rw [ec];cases decide (2147483648≤b) <;> decide +kernel
      refine ⟨0,-1074,er,.inl ⟨rfl,hr⟩,?_⟩;unfold floatToFloatBits;rw [if_neg (by decide),hd,e1];have ew:FloatKind.f64.encode (.number (decide (2147483648≤b)) 0 (-149+(d:Int)))=cv b:=by unfold cv;rw [hd,e1]
      simp only [ew];have er':FloatKind.f64.decode (cv b)=.number (decide (2147483648≤b)) 0 (-1074):=er;rw [er'];rfl
     ·obtain ⟨hm,hdd⟩:=jgW b m d e1;obtain ⟨r,w1,w2,w3⟩:=jj4 (decide (2147483648≤b)) m (-149+(d:Int)) h0 (by omega) (by omega) (by omega)
      have ec:cv b=Ieee.double.word (decide (2147483648≤b)) r:=by
       unfold cv;rw [hd,e1];exact w1
      have er:FloatKind.f64.format.read (cv b)=.number (decide (2147483648≤b)) (m*2 ^ (52 - m.log2)) (-149+(d:Int) - (52 - m.log2:Nat)):=by
       rw [ec];exact w3
      refine ⟨_,_,er,.inr ⟨by omega,?_⟩,?_⟩
      ·rw [v1];unfold jbV;rw [Nat.mul_assoc,Nat.mul_assoc,← Nat.pow_add,← Nat.pow_add];have:52 - m.log2+(-149+(d:Int) - (52 - m.log2:Nat)+250).toNat=d+101:=by omega
       rw [this]
      ·unfold floatToFloatBits;rw [if_neg (by decide),hd,e1];have ew:FloatKind.f64.encode (.number (decide (2147483648≤b)) m (-149+(d:Int)))=cv b:=by unfold cv;rw [hd,e1]
       simp only [ew];have er':FloatKind.f64.decode (cv b)=.number (decide (2147483648≤b)) (m*2 ^ (52 - m.log2)) (-149+(d:Int) - (52 - m.log2:Nat)):=er;rw [er'];rfl
end Go.Proofs.YteigfipgmghgmaaGreatDoor.Nu
namespace Go.Proofs.YteigfipgmghgmaaGreatDoor.Nu
open Go.RowKit
def sz (b:Nat):Nat:=val (b % 2147483648)*2 ^ 101
def un1:Nat:=2 ^ 250
theorem jhM:0<un1:=Nat.two_pow_pos _
def sgn (b:Nat):Bool:=decide (2147483648≤b)
theorem jsW (s t:Bool) (c:Nat) (i j:Int) (hc:c≠0):(Ieee.Datum.number s 0 i).order (.number t c j)=some (if t then .gt else .lt):=by
 have e0:∀ n:Nat,(0:Nat) <<< n=0:=fun n=>Nat.zero_shiftLeft n;simp only [Ieee.Datum.order,Ieee.signed,e0];generalize (j - min i j).toNat=n;have p:0<c <<< n:=by rw [Nat.shiftLeft_eq];exact Nat.mul_pos (by omega) (Nat.two_pow_pos _)
 generalize c <<< n=a at *
 cases s <;> cases t <;> simp only [if_true,Bool.false_eq_true,if_false] <;> first | exact congrArg some (jb3 (by omega)) | exact congrArg some (jbM (by omega))
theorem jlc (b:Nat) (hb:b<4294967296) (h:b % 2147483648<2139095040) (t:Bool) (j:Int) (K:Nat) (hj : -250≤j) (hK:jbV 4503599627370496 j=K*un1) (hK0:0<K) :
    (FloatKind.f64.format.read (cv b)).order (.number t 4503599627370496 j)=some (compare (if sgn b then -(sz b:Int) else (sz b:Int)) (if t then -((K*un1:Nat):Int) else ((K*un1:Nat):Int))):=by
     obtain ⟨m,i,e,hc,_⟩:=jlb b hb h;rw [e];have pk:0<K*un1:=Nat.mul_pos hK0 jhM
     rcases hc with ⟨h0,hr⟩ | ⟨hi,hs⟩
     ·have hz:sz b=0:=by unfold sz;rw [hr];rfl
      subst h0;rw [jsW _ _ _ _ _ (by decide),hz];generalize K*un1=a at *
      cases sgn b <;> cases t <;> simp only [if_true,Bool.false_eq_true,if_false] <;> first | exact congrArg some (jb3 (by omega)).symm | exact congrArg some (jbM (by omega)).symm
     ·rw [jsU _ _ _ _ _ _ hi hj,hK,hs];rfl
theorem jux (b:Nat) (hb:b<4294967296) (h:b % 2147483648<2139095040) :
    (FloatKind.f64.format.read (cv b)).toInt .zero=some (if sgn b then -((sz b / un1:Nat):Int) else ((sz b / un1:Nat):Int)):=by
     obtain ⟨m,i,e,hc,_⟩:=jlb b hb h;rw [e]
     rcases hc with ⟨h0,hr⟩ | ⟨hi,hs⟩
     ·have hz:sz b=0:=by unfold sz;rw [hr];rfl
      subst h0;rw [hz,Nat.zero_div];have e0:∀ n:Nat,(0:Nat) <<< n=0:=fun n=>Nat.zero_shiftLeft n;simp only [Ieee.Datum.toInt,Ieee.Datum.integral,jhL,Ieee.signed,e0,Nat.zero_div]
      cases sgn b <;> cases decide (2147483648≤b) <;> rfl
     ·rw [jsT _ _ _ hi,hs];rfl
theorem jsX (k:Nat):4503599627370496*2 ^ (11+k)=9223372036854775808*2 ^ k:=by
 rw [Nat.pow_add,← Nat.mul_assoc]
theorem jqF (i:Int) (k:Nat) (h:i.toNat=11+k):4503599627370496*2 ^ i.toNat=9223372036854775808*2 ^ k:=by
 rw [h];exact jsX k
theorem k63:jbV 4503599627370496 11=9223372036854775808*un1:=jqF (11+250) 250 rfl
theorem k31:jbV 4503599627370496 (-21)=2147483648*un1:=by
 unfold jbV un1;have e:((-21:Int)+250).toNat=229:=rfl;have e2:(250:Nat)=21+229:=rfl;rw [e,e2,Nat.pow_add,← Nat.mul_assoc]
theorem c63n:FloatKind.f64.format.read 14114281232179134464=.number true 4503599627370496 11:=by decide +kernel
theorem c63:FloatKind.f64.format.read 4890909195324358656=.number false 4503599627370496 11:=by decide +kernel
theorem c31n:FloatKind.f64.format.read 13970166044103278592=.number true 4503599627370496 (-21):=by decide +kernel
theorem c31:FloatKind.f64.format.read 4746794007248502784=.number false 4503599627370496 (-21):=by decide +kernel
def je4 (b c:Nat):Bool:=FloatKind.f64.format.order (cv b) c==some .lt
def jdC (b c:Nat):Bool:=FloatKind.f64.format.order (cv b) c==some .gt||FloatKind.f64.format.order (cv b) c==some .eq
theorem jld (b c K:Nat) (j:Int) (hb:b<4294967296) (h:b % 2147483648<2139095040) (hc:FloatKind.f64.format.read c=.number true 4503599627370496 j) (hj : -250≤j) (hK:jbV 4503599627370496 j=K*un1) (hK0:0<K) :
    je4 b c=(sgn b&&decide (K*un1<sz b)):=by
     unfold je4 Ieee.Format.order;rw [hc,jlc b hb h true j K hj hK hK0];generalize K*un1=a;generalize sz b=z
     cases sgn b
     ·simp only [Bool.false_eq_true,if_false,if_true,Bool.false_and]
      by_cases h0:(-(a:Int))<z
      ·rw [jbM h0];rfl
      ·rw [jcc (by omega)];rfl
     ·simp only [if_true,Bool.true_and]
      by_cases h0:a<z
      ·rw [jb3 (by omega),decide_eq_true h0];rfl
      ·rw [decide_eq_false h0]
       by_cases h1:z=a
       ·rw [jcc (by omega)];rfl
       ·rw [jbM (by omega)];rfl
theorem jle (b c K:Nat) (j:Int) (hb:b<4294967296) (h:b % 2147483648<2139095040) (hc:FloatKind.f64.format.read c=.number false 4503599627370496 j) (hj : -250≤j) (hK:jbV 4503599627370496 j=K*un1) (hK0:0<K) :
    jdC b c=(!sgn b&&decide (K*un1≤sz b)):=by
     have pa:0<K*un1:=Nat.mul_pos hK0 jhM;unfold jdC Ieee.Format.order;rw [hc,jlc b hb h false j K hj hK hK0];generalize K*un1=a at *;generalize sz b=z
     cases sgn b
     ·simp only [Bool.false_eq_true,if_false,Bool.not_false,Bool.true_and]
      by_cases h0:a≤z
      ·rw [decide_eq_true h0]
       by_cases h1:z=a
       ·rw [jcc (by omega)];rfl
       ·rw [jbM (by omega)];rfl
      ·rw [decide_eq_false h0,jb3 (by omega)];rfl
     ·simp only [Bool.false_eq_true,if_true,if_false,Bool.not_true,Bool.false_and];rw [jb3 (by omega)];rfl
theorem jiS (b:Nat) (hb:b<4294967296) (hn:b % 2147483648≤2139095040) :
    (je4 b 13970166044103278592=true∧jdC b 4746794007248502784=false∧(je4 b 14114281232179134464=true∨je4 b 14114281232179134464=false∧jdC b 4890909195324358656=false∧∃ n,floatToIntVal .f64 (cv b) .i64=some n)) ∨
    (je4 b 13970166044103278592=false∧jdC b 4746794007248502784=true∧je4 b 14114281232179134464=false∧(jdC b 4890909195324358656=true∨jdC b 4890909195324358656=false∧∃ n,floatToIntVal .f64 (cv b) .i64=some n∧2147483648≤n)) ∨
    (je4 b 13970166044103278592=false∧jdC b 4746794007248502784=false∧je4 b 14114281232179134464=false∧jdC b 4890909195324358656=false∧∃ n,floatToIntVal .f64 (cv b) .i64=some n ∧ -2147483648≤n∧n≤2147483647):=by
     by_cases hf:b % 2147483648=2139095040
     ·have:b=2139095040∨b=4286578688:=by omega
      rcases this with rfl | rfl
      ·right;left
       exact ⟨by decide +kernel,by decide +kernel,by decide +kernel,.inl (by decide +kernel)⟩
      ·left
       exact ⟨by decide +kernel,by decide +kernel,.inl (by decide +kernel)⟩
     ·have h:b % 2147483648<2139095040:=by omega
      rw [jld b _ 2147483648 (-21) hb h c31n (by decide) k31 (by decide),jle b _ 2147483648 (-21) hb h c31 (by decide) k31 (by decide),
       jld b _ 9223372036854775808 11 hb h c63n (by decide) k63 (by decide),jle b _ 9223372036854775808 11 hb h c63 (by decide) k63 (by decide)]
      have hi:=jux b hb h;have lt_iff:∀ K:Nat,K*un1≤sz b↔K≤sz b / un1:=fun K=>(Nat.le_div_iff_mul_le jhM).symm
      have val_of:∀ n:Int,(FloatKind.f64.format.read (cv b)).toInt .zero=some n → -9223372036854775808≤n→n≤9223372036854775807→floatToIntVal .f64 (cv b) .i64=some n:=by
       intro n h1 h2 h3;unfold floatToIntVal;have h1':(FloatKind.f64.decode (cv b)).toInt .zero=some n:=h1;rw [h1']
       have:IntKind.i64.min≤n∧n≤IntKind.i64.max:=by
        simpa [IntKind.min,IntKind.max,IntKind.signed,IntKind.bits] using ⟨h2,h3⟩
       simp only [this,and_self,if_true]
      have l31:=lt_iff 2147483648;have l63:=lt_iff 9223372036854775808;have m31:=lt_iff 2147483649;have m63:=lt_iff 9223372036854775809;have d31:∀ K:Nat,(K+1)*un1=K*un1+un1:=fun K=>Nat.succ_mul K un1;have p1:=jhM;have e31:=d31 2147483648;have e63:=d31 9223372036854775808;have big:2147483648*un1≤9223372036854775808*un1:=Nat.mul_le_mul_right _ (by decide);generalize 2147483648*un1=A at *;generalize 9223372036854775808*un1=B at *;simp only [show (2147483648+1:Nat)=2147483649 from rfl,show (9223372036854775808+1:Nat)=9223372036854775809 from rfl] at e31 e63;rw [e31] at m31;rw [e63] at m63;generalize sz b / un1=q at *;generalize sz b=z at *;generalize un1=u at *;clear d31 lt_iff e31 e63
      cases hs:sgn b
      ·rw [hs] at hi;simp only [Bool.false_eq_true,if_false] at hi
       by_cases h1:A≤z
       ·right;left
        refine ⟨by simp,by simp [h1],by simp,?_⟩
        by_cases h2:B≤z
        ·left;simp [h2]
        ·right
         refine ⟨by simp [h2],(q:Int),val_of _ hi (by omega) (by omega),by omega⟩
       ·right;right
        have h2:¬ B≤z:=by omega
        refine ⟨by simp,by simp [h1],by simp,by simp [h2],(q:Int),val_of _ hi (by omega) (by omega),by omega,by omega⟩
      ·rw [hs] at hi;simp only [if_true] at hi
       by_cases h1:A<z
       ·left
        refine ⟨by simp [h1],by simp,?_⟩
        by_cases h2:B<z
        ·left;simp [h2]
        ·right
         refine ⟨by simp [h2],by simp,-(q:Int),val_of _ hi (by omega) (by omega)⟩
       ·right;right
        have h2:¬ B<z:=by omega
        refine ⟨by simp [h1],by simp,by simp [h2],by simp,-(q:Int),val_of _ hi (by omega) (by omega),by omega,by omega⟩
end Go.Proofs.YteigfipgmghgmaaGreatDoor.Nu
namespace Go.Proofs.YteigfipgmghgmaaGreatDoor.Nu.Mo
open Ieee
def pw (n:Nat):Nat:=2 ^ n
theorem jdD (n:Nat):pw n=2 ^ n:=rfl
theorem jeH (n:Nat):0<pw n:=Nat.two_pow_pos n
theorem juy {a b:Nat} (h:a≤b):2 ^ a≤pw b:=Nat.pow_le_pow_right (by omega) h
def v64 (r:Nat):Nat:=if r<4503599627370496 then r else (4503599627370496+r % 4503599627370496)*2 ^ (r / 4503599627370496 - 1)
theorem jgX (E K:Nat) (h:E=0∨4503599627370496≤K) (hk:K≤9007199254740992):v64 (E*4503599627370496+K)=K*2 ^ E:=by
 unfold v64
 by_cases h1:K<4503599627370496
 ·have h0:E=0:=by omega
  subst h0;rw [if_pos (by omega)];simp
 ·rw [if_neg (by omega)]
  by_cases h2:K=9007199254740992
  ·subst h2;have e1:(E*4503599627370496+9007199254740992) % 4503599627370496=0:=by omega
   have e2:(E*4503599627370496+9007199254740992) / 4503599627370496 - 1=E+1:=by omega
   rw [e1,e2,Nat.pow_succ];omega
  ·have e1:4503599627370496+(E*4503599627370496+K) % 4503599627370496=K:=by omega
   have e2:(E*4503599627370496+K) / 4503599627370496 - 1=E:=by omega
   rw [e1,e2]
theorem juz (r:Nat) (h:4503599627370496≤r):2 ^ (51+r / 4503599627370496)≤v64 r:=by
 unfold v64;rw [if_neg (by omega),show 51+r / 4503599627370496=52+(r / 4503599627370496 - 1) from by omega,Nat.pow_add];exact Nat.mul_le_mul_right _ (by omega)
theorem juA (r:Nat):v64 r<2 ^ (52+r / 4503599627370496):=by
 unfold v64
 split
 ·rename_i h;rw [Nat.div_eq_of_lt h];omega
 ·rw [show 52+r / 4503599627370496=53+(r / 4503599627370496 - 1) from by omega,Nat.pow_add];exact Nat.mul_lt_mul_of_pos_right (by omega) (Nat.two_pow_pos _)
theorem jff (r s:Nat) (h:r<s):v64 r<v64 s:=by
 by_cases hq:r / 4503599627370496=s / 4503599627370496
 ·unfold v64
  by_cases h1:s<4503599627370496
  ·rw [if_pos (by omega),if_pos h1];exact h
  ·rw [if_neg h1,if_neg (by omega),hq];exact Nat.mul_lt_mul_of_pos_right (by omega) (Nat.two_pow_pos _)
 ·have hs:4503599627370496≤s:=by omega
  refine Nat.lt_of_lt_of_le (juA r) (Nat.le_trans (Nat.pow_le_pow_right (by omega) ?_) (juz s hs));omega
theorem jeI {r s:Nat} (h:r≤s):v64 r≤v64 s:=by
 rcases Nat.lt_or_eq_of_le h with h | h
 ·exact Nat.le_of_lt (jff _ _ h)
 ·rw [h];exact Nat.le_refl _
theorem jfs (s:Bool) (n d:Nat):2*Toward.even.cut s n d*2 ^ d≤2*n+2 ^ d∧2*n≤2*Toward.even.cut s n d*2 ^ d+2 ^ d:=by
 unfold Toward.cut;simp only [Nat.one_shiftLeft]
 by_cases hd:d≤n.log2+2
 ·rw [Nat.min_eq_left hd];have hG:0<2 ^ d:=Nat.two_pow_pos d;generalize 2 ^ d=G at *;have h1:=Nat.div_add_mod n G;have h2:=Nat.mod_lt n hG;generalize n / G=q at *;generalize n % G=t at *;have e0:2*q*G=2*(G*q):=by rw [Nat.mul_assoc,Nat.mul_comm q G]
  have e1:2*(q+1)*G=2*(G*q)+2*G:=by rw [Nat.mul_assoc,Nat.add_mul,Nat.mul_comm q G];omega
  generalize G*q=A at *
  by_cases h3:G<2*t
  ·simp only [h3,decide_true,Bool.true_or,Bool.toNat_true];rw [e1];omega
  ·simp only [h3,decide_false,Bool.false_or]
   by_cases h4:G=2*t
   ·cases hb:(G==2*t&&q % 2==1) with
    | true=>simp only [Bool.toNat_true];rw [e1];omega
    | false=>simp only [Bool.toNat_false,Nat.add_zero];rw [e0];omega
   ·have:(G==2*t)=false:=by simpa using h4
    simp only [this,Bool.false_and,Bool.toNat_false,Nat.add_zero];rw [e0];omega
 ·rw [Nat.min_eq_right (by omega)];have hn:n<2 ^ (n.log2+1):=Nat.lt_log2_self;have hg:2 ^ (n.log2+2)=2*2 ^ (n.log2+1):=by rw [Nat.pow_succ 2 (n.log2+1)];omega
  have hle:2 ^ (n.log2+2)≤2 ^ d:=Nat.pow_le_pow_right (by omega) (by omega);have e1:n / 2 ^ (n.log2+2)=0:=Nat.div_eq_of_lt (by omega);have e2:n % 2 ^ (n.log2+2)=n:=Nat.mod_eq_of_lt (by omega);rw [e1,e2];have e3:decide (2 ^ (n.log2+2)<2*n)=false:=by simp;omega
  have e4:(2 ^ (n.log2+2)==2*n)=false:=by
   have:¬ 2 ^ (n.log2+2)=2*n:=by omega
   simpa using this
  simp only [e3,e4,Bool.false_and,Bool.or_false,Bool.toNat_false,Nat.add_zero,Nat.mul_zero,Nat.zero_mul];omega
def rg (m:Nat) (p:Int):Nat:=if m=0 then 0 else
 (max (p+m.log2 - 52) (-1074)+1074).toNat*4503599627370496+Toward.even.cut false (m <<< (p - max (p+m.log2 - 52) (-1074)).toNat) (max (p+m.log2 - 52) (-1074) - p).toNat
theorem je5 (s:Bool) (m:Nat) (p:Int):double.nearest s m p=double.word s (min (rg m p) 9218868437227405312):=by
 unfold Format.nearest rg
 by_cases h:m=0
 ·rw [if_pos h,if_pos h];rfl
 ·rw [if_neg h,if_neg h];have e1:double.leastPlace = -1074:=rfl;have e2:double.binade=4503599627370496:=rfl;have e3:double.infRung=9218868437227405312:=rfl;have e4:((double.fractionBits:Nat):Int)=52:=rfl;simp only [e1,e2,e3,e4];have e5:∀ n d,Toward.even.cut s n d=Toward.even.cut false n d:=fun n d=>by cases s <;> rfl
  rw [e5];have e6:max (p+(m.log2:Int) - 52) (-1074) - -1074=max (p+(m.log2:Int) - 52) (-1074)+1074:=by omega
  rw [e6]
theorem jlf (m:Nat) (p:Int) (h0:m≠0) (b:Nat) (hb:1074≤b) (hp : -p≤b):∃ E K d M T:Nat,rg m p=E*4503599627370496+K∧T=E+(b - 1074)∧M*2 ^ T=m*2 ^ (p+b).toNat*2 ^ d ∧
    2*K*2 ^ d≤2*M+2 ^ d∧2*M≤2*K*2 ^ d+2 ^ d∧m*2 ^ (p+b).toNat<2 ^ (T+53)∧(E=0∨2 ^ (T+52)≤m*2 ^ (p+b).toNat):=by
     obtain ⟨l1,l2⟩ : 2 ^ m.log2≤m∧m<2 ^ (m.log2+1):=⟨Nat.log2_self_le h0,Nat.lt_log2_self⟩
     unfold rg;rw [if_neg h0];generalize hl:max (p+(m.log2:Int) - 52) (-1074)=last;refine ⟨(last+1074).toNat,_,(last - p).toNat,m <<< (p - last).toNat,_,rfl,rfl,?_,(jfs _ _ _).1,(jfs _ _ _).2,?_,?_⟩
     ·rw [Nat.shiftLeft_eq,Nat.mul_assoc,Nat.mul_assoc,← Nat.pow_add,← Nat.pow_add,show (p - last).toNat+((last+1074).toNat+(b - 1074))=(p+b).toNat+(last - p).toNat from by omega]
     ·refine Nat.lt_of_lt_of_le (Nat.mul_lt_mul_of_pos_right l2 (Nat.two_pow_pos _)) ?_;rw [← Nat.pow_add];exact Nat.pow_le_pow_right (by omega) (by omega)
     ·by_cases hE:(last+1074).toNat=0
      ·exact .inl hE
      ·refine .inr (Nat.le_trans ?_ (Nat.mul_le_mul_right _ l1));rw [← Nat.pow_add];exact Nat.pow_le_pow_right (by omega) (by omega)
theorem rg_K {x E K d M T:Nat} (hx:M*2 ^ T=x*2 ^ d) (k1:2*K*2 ^ d≤2*M+2 ^ d) (k2:2*M≤2*K*2 ^ d+2 ^ d) (b1:x<2 ^ (T+53)) (b2:E=0∨2 ^ (T+52)≤x):K≤9007199254740992∧(E=0∨4503599627370496≤K):=by
 have hT:0<2 ^ T:=Nat.two_pow_pos _;have hd:0<2 ^ d:=Nat.two_pow_pos _;constructor
 ·have h1 : M * 2 ^ T < 2 ^ 53 * 2 ^ d * 2 ^ T := by
    rw [hx,Nat.mul_assoc,Nat.mul_comm (2 ^ d) (2 ^ T),← Nat.mul_assoc];refine Nat.mul_lt_mul_of_pos_right ?_ hd;rw [Nat.pow_add,Nat.mul_comm] at b1;exact b1
  have h2:=Nat.lt_of_mul_lt_mul_right h1;generalize 2 ^ d=G at *
  have h3:K*G*2<(9007199254740992+1)*G*2:=by
   have:2*K*G=K*G*2:=by rw [Nat.mul_assoc,Nat.mul_comm]
   rw [Nat.add_mul];omega
  have h4:=Nat.lt_of_mul_lt_mul_right (Nat.lt_of_mul_lt_mul_right h3);omega
 ·rcases b2 with h | h
  ·exact .inl h
  ·have h1 : 2 ^ 52 * 2 ^ d * 2 ^ T ≤ M * 2 ^ T := by
     rw [hx,Nat.mul_assoc,Nat.mul_comm (2 ^ d) (2 ^ T),← Nat.mul_assoc];refine Nat.mul_le_mul_right _ ?_;rw [Nat.pow_add,Nat.mul_comm] at h;exact h
   have h2:=Nat.le_of_mul_le_mul_right h1 hT;generalize 2 ^ d=G at *;refine .inr ?_
   by_cases hc:4503599627370496≤K
   ·exact hc
   ·exfalso;have h3:K*G≤4503599627370495*G:=Nat.mul_le_mul_right _ (by omega);have:2*K*G=K*G*2:=by rw [Nat.mul_assoc,Nat.mul_comm]
    omega
theorem je6 (m:Nat) (p:Int) (r b:Nat) (c:Nat) (hc:b - 1074=c) (hb:1074≤b) (hp : -p≤b) (h:m*2 ^ (p+b).toNat≤v64 r*pw c):rg m p≤r:=by
 rw [jdD] at h;subst hc
 by_cases h0:m=0
 ·unfold rg;rw [if_pos h0];omega
 obtain ⟨E,K,d,M,T,e1,e2,e3,k1,k2,b1,b2⟩:=jlf m p h0 b hb hp;obtain ⟨q1,q2⟩:=rg_K e3 k1 k2 b1 b2;rw [e1];generalize m*2 ^ (p+b).toNat=x at *;have hT:0<2 ^ T:=Nat.two_pow_pos _;have hd:0<2 ^ d:=Nat.two_pow_pos _;apply Decidable.byContradiction;intro hc
 by_cases hk:K≥1∧(E=0∨4503599627370496≤K - 1)
 ·have h1 : v64 r ≤ (K - 1) * 2 ^ E := by
    rw [← jgX E (K - 1) hk.2 (by omega)];exact jeI (by omega)
  have h2:x≤(K - 1)*2 ^ T:=by
   refine Nat.le_trans h (Nat.le_trans (Nat.mul_le_mul_right _ h1) ?_);rw [e2,Nat.mul_assoc,← Nat.pow_add];exact Nat.le_refl _
  have h3:M*2 ^ T≤(K - 1)*2 ^ d*2 ^ T:=by
   rw [e3,Nat.mul_assoc (K - 1),Nat.mul_comm (2 ^ d) (2 ^ T),← Nat.mul_assoc];exact Nat.mul_le_mul_right _ h2
  have h4:=Nat.le_of_mul_le_mul_right h3 hT;generalize 2 ^ d=G at *;have h5:K*G=(K - 1)*G+G:=by rw [← Nat.succ_mul,Nat.succ_eq_add_one,Nat.sub_add_cancel hk.1]
  have:2*K*G=K*G*2:=by rw [Nat.mul_assoc,Nat.mul_comm]
  omega
 ·have hE:E≠0:=by omega
  have hK:K=4503599627370496:=by omega
  subst hK
  have h1:v64 r<4503599627370496*2 ^ E:=by
   rw [← jgX E 4503599627370496 (.inr (Nat.le_refl _)) (by omega)];exact jff _ _ (by omega)
  have h2:x<4503599627370496*2 ^ T:=by
   refine Nat.lt_of_le_of_lt h (Nat.lt_of_lt_of_le (Nat.mul_lt_mul_of_pos_right h1 (Nat.two_pow_pos _)) ?_);rw [e2,Nat.mul_assoc,← Nat.pow_add];exact Nat.le_refl _
  rcases b2 with b2 | b2
  ·exact hE b2
  ·rw [Nat.pow_add] at b2;omega
theorem jhN (m:Nat) (p:Int) (r b:Nat) (c:Nat) (hc:b - 1074=c) (hb:1074≤b) (hp : -p≤b) (h:v64 r*pw c≤m*2 ^ (p+b).toNat):r≤rg m p:=by
 rw [jdD] at h;subst hc
 by_cases h0:m=0
 ·subst h0;rw [Nat.zero_mul] at h;apply Decidable.byContradiction;intro hc;have h1:0<v64 r:=Nat.lt_of_le_of_lt (Nat.zero_le _) (jff 0 r (by omega));have:=Nat.mul_pos h1 (Nat.two_pow_pos (b - 1074));omega
 obtain ⟨E,K,d,M,T,e1,e2,e3,k1,k2,b1,b2⟩:=jlf m p h0 b hb hp;obtain ⟨q1,q2⟩:=rg_K e3 k1 k2 b1 b2;rw [e1];generalize m*2 ^ (p+b).toNat=x at *;have hT:0<2 ^ T:=Nat.two_pow_pos _;apply Decidable.byContradiction;intro hc
 by_cases hk:K+1≤9007199254740992
 ·have h1 : (K + 1) * 2 ^ E ≤ v64 r := by
    rw [← jgX E (K+1) (by omega) hk];exact jeI (by omega)
  have h2:(K+1)*2 ^ T≤x:=by
   refine Nat.le_trans ?_ (Nat.le_trans (Nat.mul_le_mul_right _ h1) h);rw [e2,Nat.mul_assoc,← Nat.pow_add];exact Nat.le_refl _
  have h3:(K+1)*2 ^ d*2 ^ T≤M*2 ^ T:=by
   rw [e3,Nat.mul_assoc (K+1),Nat.mul_comm (2 ^ d) (2 ^ T),← Nat.mul_assoc];exact Nat.mul_le_mul_right _ h2
  have h4:=Nat.le_of_mul_le_mul_right h3 hT;have hd:0<2 ^ d:=Nat.two_pow_pos _;generalize 2 ^ d=G at *;rw [Nat.add_mul] at h4;have:2*K*G=K*G*2:=by rw [Nat.mul_assoc,Nat.mul_comm]
  omega
 ·have hK:K=9007199254740992:=by omega
  subst hK
  have h1:9007199254740992*2 ^ E<v64 r:=by
   rw [← jgX E 9007199254740992 (.inr (by omega)) (by omega)];exact jff _ _ (by omega)
  have h2:9007199254740992*2 ^ T<x:=by
   refine Nat.lt_of_lt_of_le (Nat.lt_of_le_of_lt ?_ (Nat.mul_lt_mul_of_pos_right h1 (Nat.two_pow_pos (b - 1074)))) h;rw [e2,Nat.mul_assoc,← Nat.pow_add];exact Nat.le_refl _
  rw [Nat.pow_add] at b1;omega
theorem jj5 (s:Bool) (r:Nat) (h:r<9223372036854775808):double.word s r % 9223372036854775808=r∧(double.word s r / 9223372036854775808 % 2==1)=s:=by
 have e5:double.signWeight=9223372036854775808:=rfl;unfold Format.word;rw [e5]
 cases s with
 | false =>
  rw [if_neg (by decide)];exact ⟨Nat.mod_eq_of_lt h,by rw [Nat.div_eq_of_lt h];rfl⟩
 | true =>
  rw [if_pos rfl];have:(9223372036854775808+r) / 9223372036854775808=1:=by omega
  exact ⟨by omega,by rw [this];rfl⟩
theorem ja8 (s:Bool) (r:Nat) (hr:r<9218868437227405312):∃ (m:Nat) (p:Int),double.read (double.word s r)=.number s m p ∧ -1074≤p∧p≤971∧m<9007199254740992∧m*2 ^ (p+1074).toNat=v64 r:=by
 have e1:double.leastPlace = -1074:=rfl;have e2:double.binade=4503599627370496:=rfl;have e3:double.infRung=9218868437227405312:=rfl;have e5:double.signWeight=9223372036854775808:=rfl;obtain ⟨w1,w2⟩:=jj5 s r (by omega);unfold Format.read v64;simp only [e1,e2,e3,e5];rw [w1,w2]
 by_cases h:r<4503599627370496
 ·rw [if_pos h,if_pos h];exact ⟨r,-1074,rfl,by omega,by omega,by omega,by simp⟩
 ·rw [if_neg h,if_neg h,if_pos hr];exact ⟨_,_,rfl,by omega,by omega,by omega,by congr 2;omega⟩
theorem jft (s t:Bool) (r q:Nat) (hr:r<9218868437227405312) (hq:q<9218868437227405312):∃ n,double.mul (double.word s r) (double.word t q)=some (double.word (s ^^ t) (min n 9218868437227405312)) ∧
    (∀ c,v64 r*v64 q≤v64 c*pw 1074→n≤c)∧(∀ c,v64 c*pw 1074≤v64 r*v64 q→c≤n):=by
     obtain ⟨m,p,e1,p1,p2,-,e2⟩:=ja8 s r hr;obtain ⟨m',p',e1',p1',p2',-,e2'⟩:=ja8 t q hq
     have hx:m*m'*2 ^ (p+p'+2148).toNat=v64 r*v64 q:=by
      rw [← e2,← e2',show (p+p'+2148).toNat=(p+1074).toNat+(p'+1074).toNat from by omega,Nat.pow_add];simp only [Nat.mul_assoc,Nat.mul_left_comm]
     refine ⟨rg (m*m') (p+p'),?_,fun c hc=>je6 _ _ c 2148 1074 rfl (by omega) (by omega) ?_,fun c hc=>jhN _ _ c 2148 1074 rfl (by omega) (by omega) ?_⟩
     ·unfold Format.mul;rw [e1,e1'];show some (double.nearest _ _ _)=_;rw [je5]
     ·rw [show ((2148:Nat):Int)=2148 from rfl,hx];exact hc
     ·rw [show ((2148:Nat):Int)=2148 from rfl,hx];exact hc
def sv (s:Bool) (r:Nat):Int:=if s then -(v64 r:Int) else (v64 r:Int)
theorem jeJ (s:Bool) (r m:Nat) (p base:Int) (hb:base≤p) (h0 : -1074≤base) (e:m*2 ^ (p+1074).toNat=v64 r):signed s m (p - base).toNat*((2 ^ (base+1074).toNat:Nat):Int)=sv s r:=by
 have hh:m <<< (p - base).toNat*2 ^ (base+1074).toNat=v64 r:=by
  rw [Nat.shiftLeft_eq,Nat.mul_assoc,← Nat.pow_add,← e,show (p - base).toNat+(base+1074).toNat=(p+1074).toNat from by omega]
 unfold signed sv;rw [← hh]
 cases s
 ·simp
 ·simp [Int.neg_mul]
theorem jlg (s t:Bool) (r q m m':Nat) (p p':Int) (p1 : -1074≤p) (p1' : -1074≤p') (e2:m*2 ^ (p+1074).toNat=v64 r) (e2':m'*2 ^ (p'+1074).toNat=v64 q):∃ n,((Datum.number s m p).sum (.number t m' p')).map double.write=some (double.word (if sv s r+sv t q=0 then s&&t else decide (sv s r+sv t q<0)) (min n 9218868437227405312)) ∧
    (∀ c,(sv s r+sv t q).natAbs≤v64 c→n≤c)∧(∀ c,v64 c≤(sv s r+sv t q).natAbs→c≤n):=by
     have hb0 : -1074≤min p p':=by omega
     have g1:=jeJ s r m p (min p p') (by omega) hb0 e2;have g2:=jeJ t q m' p' (min p p') (by omega) hb0 e2';generalize hT:signed s m (p - min p p').toNat+signed t m' (p' - min p p').toNat=T;have hS:T*((2 ^ (min p p'+1074).toNat:Nat):Int)=sv s r+sv t q:=by rw [← hT,Int.add_mul,g1,g2]
     have hpos:(0:Int)<((2 ^ (min p p'+1074).toNat:Nat):Int):=Int.ofNat_lt.2 (Nat.two_pow_pos _);have hab:T.natAbs*2 ^ (min p p'+1074).toNat=(sv s r+sv t q).natAbs:=by rw [← hS,Int.natAbs_mul];simp
     have hz:(T=0)↔(sv s r+sv t q=0):=by
      rw [← hS];constructor
      ·intro h;rw [h];simp
      ·intro h;rcases Int.mul_eq_zero.1 h with h | h
       ·exact h
       ·omega
     have hn:(T<0)↔(sv s r+sv t q<0):=by
      rw [← hS];constructor
      ·intro h;exact Int.mul_neg_of_neg_of_pos h hpos
      ·intro h;apply Decidable.byContradiction;intro hc;have:=Int.mul_nonneg (show 0≤T by omega) (Int.le_of_lt hpos);omega
     refine ⟨rg T.natAbs (min p p'),?_,fun c hc=>je6 _ _ c 1074 0 rfl (by omega) (by omega) ?_,fun c hc=>jhN _ _ c 1074 0 rfl (by omega) (by omega) ?_⟩
     ·unfold Datum.sum;simp only [hT,Option.map_some];show some (double.nearest _ _ _)=_;rw [je5];simp only [hz,hn]
     ·rw [show ((1074:Nat):Int)=1074 from rfl,hab,jdD,Nat.pow_zero,Nat.mul_one];exact hc
     ·rw [show ((1074:Nat):Int)=1074 from rfl,hab,jdD,Nat.pow_zero,Nat.mul_one];exact hc
theorem jlh (s t:Bool) (r q:Nat) (hr:r<9218868437227405312) (hq:q<9218868437227405312):∃ n,double.add (double.word s r) (double.word t q)=some (double.word (if sv s r+sv t q=0 then s&&t else decide (sv s r+sv t q<0)) (min n 9218868437227405312)) ∧
    (∀ c,(sv s r+sv t q).natAbs≤v64 c→n≤c)∧(∀ c,v64 c≤(sv s r+sv t q).natAbs→c≤n):=by
     obtain ⟨m,p,e1,p1,p2,-,e2⟩:=ja8 s r hr;obtain ⟨m',p',e1',p1',p2',-,e2'⟩:=ja8 t q hq;unfold Format.add;rw [e1,e1'];exact jlg s t r q m m' p p' p1 p1' e2 e2'
theorem jqG (s t:Bool) (r q:Nat) (hr:r<9218868437227405312) (hq:q<9218868437227405312):∃ n,double.sub (double.word s r) (double.word t q)=some (double.word (if sv s r+sv (!t) q=0 then s&&!t else decide (sv s r+sv (!t) q<0)) (min n 9218868437227405312)) ∧
    (∀ c,(sv s r+sv (!t) q).natAbs≤v64 c→n≤c)∧(∀ c,v64 c≤(sv s r+sv (!t) q).natAbs→c≤n):=by
     obtain ⟨m,p,e1,p1,p2,-,e2⟩:=ja8 s r hr;obtain ⟨m',p',e1',p1',p2',-,e2'⟩:=ja8 t q hq;unfold Format.sub;rw [e1,e1'];exact jlg s (!t) r q m m' p p' p1 p1' e2 e2'
theorem jqH (s:Bool) (r q:Nat) (hr:r<9218868437227405312) (hq:q<9218868437227405312) (h1:pw 1074≤v64 q):∃ n,double.div (double.word s r) (double.word false q)=some (double.word s (min n 9218868437227405312))∧n≤r:=by
 obtain ⟨m,p,e1,p1,p2,hm,e2⟩:=ja8 s r hr;obtain ⟨n,j,e1',p1',p2',hn,e2'⟩:=ja8 false q hq
 have hn0:n≠0:=by
  intro h;rw [h,Nat.zero_mul] at e2';rw [← e2'] at h1;have:=jeH 1074;omega
 obtain ⟨l1,l2⟩ : 2 ^ n.log2≤n∧n<2 ^ (n.log2+1):=⟨Nat.log2_self_le hn0,Nat.lt_log2_self⟩
 have hj:0≤j+n.log2:=by
  apply Decidable.byContradiction;intro hc;have h2:n*2 ^ (j+1074).toNat<2 ^ (n.log2+1)*2 ^ (j+1074).toNat:=Nat.mul_lt_mul_of_pos_right l2 (Nat.two_pow_pos _);rw [← Nat.pow_add,e2'] at h2;have h3:2 ^ (n.log2+1+(j+1074).toNat)≤pw 1074:=juy (by omega);omega
 have hml:m.log2≤52:=by
  by_cases h:m=0
  ·rw [h];decide
  ·have:=(Nat.log2_lt h (k:=53)).2 (by simpa using hm);omega
 have hnl:n.log2≤52:=by have:=(Nat.log2_lt hn0 (k:=53)).2 (by simpa using hn);omega
 generalize hmo:54+n.log2 - m.log2=more;obtain ⟨a,ha⟩ : ∃ a:Nat,(a:Int)=more+j:=⟨(more+j).toNat,by omega⟩
 have hJ:m <<< more≤n*(m*2 ^ a):=by
  rw [Nat.shiftLeft_eq,Nat.mul_left_comm];refine Nat.mul_le_mul_left _ ?_;refine Nat.le_trans ?_ (Nat.mul_le_mul_right _ l1);rw [← Nat.pow_add];exact Nat.pow_le_pow_right (by omega) (by omega)
 generalize hD:m <<< more=D at hJ
 have hM:2*(D / n)+(D % n != 0).toNat≤2*(m*2 ^ a):=by
  have hdm:=Nat.div_add_mod D n
  have hq1:D / n≤m*2 ^ a:=by
   have:=Nat.div_le_div_right (c:=n) hJ
   rwa [Nat.mul_div_cancel_left _ (Nat.pos_of_ne_zero hn0)] at this
  by_cases h:D % n=0
  ·rw [h];have e0:((0:Nat) != 0).toNat=0:=rfl;omega
  ·have : D / n ≠ m * 2 ^ a := by
     intro he;rw [he] at hdm;omega
   have h5:(D % n != 0).toNat≤1:=Bool.toNat_le _;omega
 refine ⟨rg (2*(D / n)+(D % n != 0).toNat) (p - j - more - 1),?_,?_⟩
 ·unfold Format.div Datum.quotient;rw [e1,e1'];simp only;rw [if_neg hn0];show some (double.nearest _ _ _)=_;rw [je5];have e52:double.fractionBits+2=54:=rfl;rw [e52,hmo,hD];simp
 ·obtain ⟨b,hb⟩ : ∃ b:Nat,b=4000:=⟨_,rfl⟩
  refine je6 _ _ r b (b - 1074) rfl (by omega) (by omega) ?_;refine Nat.le_trans (Nat.mul_le_mul_right _ hM) ?_;rw [← e2,jdD,show (2:Nat)*(m*2 ^ a)=m*2 ^ (a+1) from by rw [Nat.pow_succ];simp only [Nat.mul_left_comm,Nat.mul_comm],Nat.mul_assoc,Nat.mul_assoc,← Nat.pow_add,← Nat.pow_add];refine Nat.mul_le_mul_left _ (Nat.pow_le_pow_right (by omega) (by omega))
theorem jj6 {n c:Nat} (h1:n≤c) (h2:c≤n):n=c:=by omega
theorem jfT {r s:Nat} (h:v64 r≤v64 s):r≤s:=by
 apply Decidable.byContradiction;intro hc;have:=jff s r (by omega);omega
theorem jj7 (g a:Nat) (hg:g<9007199254740992):∃ r,v64 r=g*pw a:=by
 by_cases h0:g=0
 ·exact ⟨0,by rw [h0,Nat.zero_mul];rfl⟩
 obtain ⟨l1,l2⟩ : 2 ^ g.log2≤g∧g<2 ^ (g.log2+1):=⟨Nat.log2_self_le h0,Nat.lt_log2_self⟩
 have hl:g.log2≤52:=by have:=(Nat.log2_lt h0 (k:=53)).2 (by simpa using hg);omega
 rw [jdD]
 by_cases ha:a≤52 - g.log2
 ·refine ⟨0*4503599627370496+g*2 ^ a,?_⟩;rw [jgX 0 (g*2 ^ a) (.inl rfl) ?_]
  ·simp
  ·refine Nat.le_trans (Nat.mul_le_mul_right _ (Nat.le_of_lt l2)) ?_;rw [← Nat.pow_add];exact Nat.pow_le_pow_right (by decide) (show g.log2+1+a≤53 by omega)
 ·refine ⟨(a - (52 - g.log2))*4503599627370496+g*2 ^ (52 - g.log2),?_⟩;rw [jgX _ _ (.inr ?_) ?_,Nat.mul_assoc,← Nat.pow_add,show 52 - g.log2+(a - (52 - g.log2))=a from by omega]
  ·refine Nat.le_trans ?_ (Nat.mul_le_mul_right _ l1);rw [← Nat.pow_add];rw [show g.log2+(52 - g.log2)=52 from by omega]
   decide
  ·refine Nat.le_trans (Nat.mul_le_mul_right _ (Nat.le_of_lt l2)) ?_;rw [← Nat.pow_add];exact Nat.pow_le_pow_right (by decide) (show g.log2+1+(52 - g.log2)≤53 by omega)
theorem grid {X U n:Nat} (hU:0<U) (hb:∀ c,X≤v64 c*U→n≤c) (ha:∀ c,v64 c*U≤X→c≤n) (hX:X<4503599627370496*pw 1034*U):X≤(v64 n+pw 1034)*U∧v64 n*U≤X+pw 1034*U∧n<9218868437227405312:=by
 have he:=jeH 1034;have h1034:v64 4661225614328463360=4503599627370496*pw 1034:=by decide +kernel
 have hR:∀ g,g<9007199254740992→∃ r,v64 r=g*pw 1034:=fun g hg=>jj7 g 1034 hg;generalize pw 1034=e at *;have heU:0<e*U:=Nat.mul_pos he hU;have hdm:=Nat.div_add_mod X (e*U);have hml:=Nat.mod_lt X heU
 have hg:X / (e*U)<4503599627370496:=by
  rw [Nat.div_lt_iff_lt_mul heU,← Nat.mul_assoc];exact hX
 generalize X / (e*U)=g at *;generalize X % (e*U)=t at *;obtain ⟨r1,h1⟩:=hR g (by omega);obtain ⟨r2,h2⟩:=hR (g+1) (by omega);have eg:g*e*U=e*U*g:=by rw [Nat.mul_assoc,Nat.mul_comm]
 have eg1:(g+1)*e*U=e*U*g+e*U:=by rw [Nat.mul_assoc,Nat.add_mul,Nat.one_mul,Nat.mul_comm]
 have q1:=jeI (ha r1 (by rw [h1,eg];omega));have q2:=jeI (hb r2 (by rw [h2,eg1];omega));rw [h1] at q1;rw [h2] at q2;have q3:=Nat.mul_le_mul_right U q1;have q4:=Nat.mul_le_mul_right U q2;rw [eg] at q3;rw [eg1] at q4;refine ⟨by rw [Nat.add_mul];omega,by omega,?_⟩
 have q5:n≤4661225614328463360:=jfT (by
  rw [h1034];exact Nat.le_trans q2 (Nat.mul_le_mul_right _ (by omega)))
 omega
theorem jqI (s:Bool) (n d:Nat):(s=false→Toward.down.cut s n d*2 ^ d≤n∧n<(Toward.down.cut s n d+1)*2 ^ d)∧(s=true→n≤Toward.down.cut s n d*2 ^ d∧Toward.down.cut s n d*2 ^ d<n+2 ^ d):=by
 have hG:0<2 ^ d:=Nat.two_pow_pos d;unfold Toward.cut;simp only [Nat.one_shiftLeft]
 by_cases hd:d≤n.log2+2
 ·rw [Nat.min_eq_left hd];generalize 2 ^ d=G at *;have h1:=Nat.div_add_mod n G;have h2:=Nat.mod_lt n hG;generalize n / G=q at *;generalize n % G=t at *;have e0:q*G=G*q:=Nat.mul_comm _ _;have e1:(q+1)*G=G*q+G:=by rw [Nat.add_mul,Nat.one_mul,Nat.mul_comm]
  generalize G*q=A at *;refine ⟨fun hs=>?_,fun hs=>?_⟩ <;> subst hs
  ·simp only [Bool.false_and,Bool.toNat_false,Nat.add_zero];rw [e0,e1];omega
  ·by_cases ht:t=0
   ·subst ht;have e5:(true&&((0:Nat) != 0)).toNat=0:=rfl;rw [e5,Nat.add_zero,e0];omega
   ·have e5:(true&&(t != 0)).toNat=1:=by simp [ht]
    rw [e5,e1];omega
 ·rw [Nat.min_eq_right (by omega)];have hn:n<2 ^ (n.log2+1):=Nat.lt_log2_self;have hg:2 ^ (n.log2+2)=2*2 ^ (n.log2+1):=by rw [Nat.pow_succ 2 (n.log2+1)];omega
  have hle:2 ^ (n.log2+2)≤2 ^ d:=Nat.pow_le_pow_right (by omega) (by omega);have e1:n / 2 ^ (n.log2+2)=0:=Nat.div_eq_of_lt (by omega);have e2:n % 2 ^ (n.log2+2)=n:=Nat.mod_eq_of_lt (by omega);rw [e1,e2];refine ⟨fun hs=>?_,fun hs=>?_⟩ <;> subst hs
  ·simp only [Bool.false_and,Bool.toNat_false,Nat.add_zero,Nat.zero_mul,Nat.zero_add,Nat.one_mul];omega
  ·by_cases ht:n=0
   ·subst ht;have e5:(true&&((0:Nat) != 0)).toNat=0:=rfl;rw [e5];omega
   ·have e5:(true&&(n != 0)).toNat=1:=by simp [ht]
    rw [e5];omega
theorem jl3 (s:Bool) (r:Nat) (hr:r<9218868437227405312) (hv:v64 r<4503599627370496*pw 1074):∃ M rk:Nat,double.write ((double.read (double.word s r)).integral .down)=double.word s rk∧rk<9218868437227405312∧v64 rk=M*pw 1074∧M≤4503599627370496 ∧
    sv s rk≤sv s r∧sv s r<sv s rk+pw 1074∧(double.read (double.word s r)).integral .down=.number s M 0:=by
     obtain ⟨m,p,e1,p1,p2,hm,e2⟩:=ja8 s r hr;have hpp:=jeH 1074;obtain ⟨M,hM⟩ : ∃ M,M=Toward.down.cut s (m <<< p.toNat) (-p).toNat:=⟨_,rfl⟩
     have key:(s=false→M*pw 1074≤v64 r∧v64 r<(M+1)*pw 1074)∧(s=true→v64 r≤M*pw 1074∧M*pw 1074<v64 r+pw 1074):=by
      obtain ⟨c1,c2⟩:=jqI s (m <<< p.toNat) (-p).toNat;rw [← hM,Nat.shiftLeft_eq] at c1 c2;obtain ⟨c,hc⟩ : ∃ c:Nat,c=1074:=⟨_,rfl⟩
      have hx:m*2 ^ p.toNat*2 ^ (c - (-p).toNat)=v64 r:=by rw [Nat.mul_assoc,← Nat.pow_add,← e2,show p.toNat+(c - (-p).toNat)=(p+1074).toNat from by omega]
      have hw:2 ^ (-p).toNat*2 ^ (c - (-p).toNat)=pw c:=by rw [← Nat.pow_add,jdD,show (-p).toNat+(c - (-p).toNat)=c from by omega]
      rw [← hc];have hq:=Nat.two_pow_pos (c - (-p).toNat);rw [← hw,← hx];generalize 2 ^ (c - (-p).toNat)=Q at *;generalize 2 ^ (-p).toNat=G at *;generalize m*2 ^ p.toNat=n at *;refine ⟨fun hs=>?_,fun hs=>?_⟩
      ·obtain ⟨a1,a2⟩:=c1 hs;rw [← Nat.mul_assoc,← Nat.mul_assoc];exact ⟨Nat.mul_le_mul_right _ a1,Nat.mul_lt_mul_of_pos_right a2 hq⟩
      ·obtain ⟨a1,a2⟩:=c2 hs;rw [← Nat.mul_assoc,← Nat.add_mul];exact ⟨Nat.mul_le_mul_right _ a1,Nat.mul_lt_mul_of_pos_right a2 hq⟩
     have hMle:M≤4503599627370496:=by
      apply Decidable.byContradiction;intro hc;have h5:(4503599627370496+1)*pw 1074≤M*pw 1074:=Nat.mul_le_mul_right _ (by omega);rw [Nat.add_mul,Nat.one_mul] at h5
      cases s with
      | false=>have:=(key.1 rfl).1;omega
      | true=>have:=(key.2 rfl).2;omega
     obtain ⟨rk,hrk⟩:=jj7 M 1074 (by omega);have hint:(double.read (double.word s r)).integral .down=.number s M 0:=by rw [e1,hM];rfl
     have hcc:v64 9218868437227405311=9007199254740991*pw 2045:=by decide +kernel
     have hrk2:rk≤4841369599423283200:=jfT (by
      rw [hrk,show v64 4841369599423283200=4503599627370496*pw 1074 from by decide +kernel];exact Nat.mul_le_mul_right _ hMle)
     have hn:rg M 0=rk:=by
      have hz:((0:Int)+((2148:Nat):Int)).toNat=2148:=rfl;obtain ⟨c,hc⟩ : ∃ c:Nat,c=1074:=⟨_,rfl⟩
      have hb:((0:Int)+((c+c:Nat):Int)).toNat=c+c:=by omega
      have hx:M*2 ^ ((0:Int)+((c+c:Nat):Int)).toNat=v64 rk*pw c:=by rw [hb,hrk,← hc,jdD,Nat.pow_add,Nat.mul_assoc]
      exact jj6 (je6 M 0 rk (c+c) c (by omega) (by omega) (by omega) (Nat.le_of_eq hx)) (jhN M 0 rk (c+c) c (by omega) (by omega) (by omega) (Nat.le_of_eq hx.symm))
     refine ⟨M,rk,?_,by omega,hrk,hMle,?_,?_,hint⟩
     ·rw [hint];show double.nearest s M 0=_;rw [je5,hn,Nat.min_eq_left (by omega)]
     ·unfold sv;rw [hrk]
      cases s with
      | false=>have:=(key.1 rfl).1;simp only [Bool.false_eq_true,if_false];omega
      | true=>have:=(key.2 rfl).1;simp only [if_true];omega
     ·unfold sv;rw [hrk]
      cases s with
      | false=>have:=(key.1 rfl).2;rw [Nat.add_mul,Nat.one_mul] at this;simp only [Bool.false_eq_true,if_false];omega
      | true=>have:=(key.2 rfl).2;simp only [if_true];omega
theorem jdE {n:Nat} (h:n<9218868437227405312):min n 9218868437227405312=n:=Nat.min_eq_left (by omega)
theorem jr7 (s:Bool) (r:Nat):(sv s r).natAbs=v64 r:=by unfold sv;cases s <;> simp
theorem jsY {S:Int} {s:Bool} {n:Nat} (hs:s=if S=0 then s else decide (S<0)) (h1:S.natAbs≤v64 n+pw 1034) (h2:v64 n≤S.natAbs+pw 1034):S - pw 1034≤sv s n∧sv s n≤S+pw 1034:=by
 have he:=jeH 1034;generalize pw 1034=e at *;unfold sv
 by_cases h0:S=0
 ·subst h0;simp only [Int.natAbs_zero,Nat.zero_add] at h1 h2
  cases s
  ·simp only [Bool.false_eq_true,if_false];omega
  ·simp only [if_true];omega
 ·rw [if_neg h0] at hs
  by_cases hn:S<0
  ·rw [hs];simp only [hn,decide_true,if_true];omega
  ·rw [hs];simp only [hn,decide_false,Bool.false_eq_true,if_false];omega
theorem pw74:pw 1074=1099511627776*pw 1034:=by decide +kernel
theorem jsZ {Y Z1 Z2 A KL e : Int} (h1 : 4503599627370496 * Z1 - 6497320848556798 * Y ≤ 4503599627370496 * e) (h2 : 6497320848556798 * Y - 4503599627370496 * Z1 ≤ 4503599627370496 * e)
    (h3:Z2 - (Z1+549755813888*e)≤e) (h4:Z1+549755813888*e - Z2≤e) (h5:A≤Z2) (h6:Z2<A+1099511627776*e)
    (h7:9007199254740992*KL - 6243314768165359*A≤9007199254740992*e) (h8:6243314768165359*A - 9007199254740992*KL≤9007199254740992*e) (h9:Y≤115448720916480*e) (h10 : -(115448720916480*e)≤Y) :
    Y - KL≤412316860416*e∧KL - Y≤412316860416*e:=by
     constructor <;> omega
theorem juB (s:Bool) (r:Nat):sv (!s) r = -sv s r:=by unfold sv;cases s <;> simp
theorem jiT {s:Bool} {x n c d:Nat} {e:Int} (h1:(c:Int)*x≤d*(v64 n+e)) (h2:(d:Int)*v64 n≤c*x+d*e) {Y:Int} (hY:Y=if s then -(x:Int) else x):(d:Int)*sv s n - c*Y≤d*e∧(c:Int)*Y - d*sv s n≤d*e:=by
 rw [Int.mul_add] at h1;unfold sv;subst hY
 cases s
 ·simp only [Bool.false_eq_true,if_false];omega
 ·simp only [if_true,Int.mul_neg];omega
theorem jqJ (sy:Bool) (ry:Nat) (hry:ry<9218868437227405312) (hy:v64 ry≤105*pw 1074) :
    ∃ z1 z2 r2:Nat,∃ s2:Bool,double.mul (double.word sy ry) 4609176140021203710=some z1∧double.add z1 4602678819172646912=some z2∧z2=double.word s2 r2∧r2<9218868437227405312 ∧
    ∃ M rk kl r:Nat,double.write ((double.read z2).integral .down)=double.word s2 rk∧(double.read z2).integral .down=.number s2 M 0∧M≤160∧(v64 ry≤32*pw 1074→M≤60)∧rk<9218868437227405312∧v64 rk=M*pw 1074 ∧
    double.mul (double.word s2 rk) 4604418534313441775=some kl∧double.sub (double.word sy ry) kl=some r∧∃ (sr:Bool) (rr:Nat),r=double.word sr rr∧rr≤4600427019358961664:=by
     have he:=jeH 1034;have hU:=pw74;have hUp:=jeH 1074;have hC:v64 4609176140021203710=6497320848556798*pw 1022:=by decide +kernel
     have hC2:pw 1074=4503599627370496*pw 1022:=by decide +kernel
     have hC4:pw 1034=4096*pw 1022:=by decide +kernel
     have hCp:=jeH 1022;have hL:v64 4604418534313441775=6243314768165359*pw 1021:=by decide +kernel
     have hL2:pw 1074=9007199254740992*pw 1021:=by decide +kernel
     have hLp:=jeH 1021;have hH:v64 4602678819172646912=549755813888*pw 1034:=by decide +kernel
     have hR:v64 4600427019358961664=412316860416*pw 1034:=by decide +kernel
     obtain ⟨n1,m1,b1,a1⟩:=jft sy false ry 4609176140021203710 hry (by decide);rw [show double.word false 4609176140021203710=4609176140021203710 from rfl,Bool.xor_false] at m1
     have hX1:v64 ry*v64 4609176140021203710<4503599627370496*pw 1034*pw 1074:=by
      rw [hC];refine Nat.lt_of_le_of_lt (Nat.mul_le_mul_right _ hy) ?_;rw [Nat.mul_assoc,Nat.mul_comm (pw 1074),← Nat.mul_assoc];refine Nat.mul_lt_mul_of_pos_right ?_ hUp;omega
     obtain ⟨g1,g2,g3⟩:=grid hUp b1 a1 hX1;rw [jdE g3] at m1
     have k1:v64 ry*6497320848556798≤(v64 n1+pw 1034)*4503599627370496:=by
      rw [hC,hC2,← Nat.mul_assoc,← Nat.mul_assoc] at g1;exact Nat.le_of_mul_le_mul_right g1 hCp
     have k2:v64 n1*4503599627370496≤v64 ry*6497320848556798+pw 1034*4503599627370496:=by
      rw [hC,hC2,← Nat.mul_assoc,← Nat.mul_assoc,← Nat.mul_assoc,← Nat.add_mul] at g2;exact Nat.le_of_mul_le_mul_right g2 hCp
     have q1:=jiT (s:=sy) (x:=v64 ry) (n:=n1) (c:=6497320848556798) (d:=4503599627370496) (e:=(pw 1034:Nat)) (by omega) (by omega) (Y:=sv sy ry) rfl;have hY1:sv sy ry≤115448720916480*(pw 1034:Nat):=by unfold sv;split <;> omega
     have hY2 : -(115448720916480*((pw 1034:Nat):Int))≤sv sy ry:=by unfold sv;split <;> omega
     obtain ⟨n2,m2,b2,a2⟩:=jlh sy false n1 4602678819172646912 g3 (by decide);rw [show double.word false 4602678819172646912=4602678819172646912 from rfl] at m2;have hS:sv false 4602678819172646912=549755813888*(pw 1034:Nat):=by unfold sv;rw [hH];simp
     rw [hS] at m2 b2 a2;obtain ⟨S2,hS2⟩ : ∃ S,S=sv sy n1+549755813888*((pw 1034:Nat):Int):=⟨_,rfl⟩
     rw [← hS2] at m2 b2 a2;have q1a:=q1.1;have q1b:=q1.2;have hS2b:S2.natAbs<4503599627370496*pw 1034*1:=by omega
     obtain ⟨g4,g5,g6⟩:=grid (U:=1) (by omega) (fun c hc=>b2 c (by omega)) (fun c hc=>a2 c (by omega)) hS2b;rw [jdE g6] at m2;obtain ⟨s2,hs2⟩ : ∃ s2:Bool,s2=if S2=0 then (sy&&false) else decide (S2<0):=⟨_,rfl⟩
     rw [← hs2] at m2;have q2:=jsY (S:=S2) (s:=s2) (n:=n2) (by by_cases h:S2=0;rw [if_pos h];rw [if_neg h];rw [hs2,if_neg h]) (by omega) (by omega);have hn2:v64 n2<4503599627370496*pw 1074:=by omega
     obtain ⟨M,rk,f1,f2,f3,f4,f5,f6,f7⟩:=jl3 s2 n2 g6 hn2
     have hMs:v64 rk≤160*pw 1074:=by
      have:=jr7 s2 rk;omega
     have hM:M≤160:=by
      apply Decidable.byContradiction;intro hc;have h5:161*pw 1074≤M*pw 1074:=Nat.mul_le_mul_right _ (by omega);omega
     have hM2:v64 ry≤32*pw 1074→M≤60:=fun h20=>by
      have hMt:v64 rk≤60*pw 1074:=by
       have:=jr7 s2 rk;have y1:sv sy ry≤35184372088832*(pw 1034:Nat):=by unfold sv;split <;> omega
       have y2 : -(35184372088832*((pw 1034:Nat):Int))≤sv sy ry:=by unfold sv;split <;> omega
       omega
      apply Decidable.byContradiction;intro hc;have h5:61*pw 1074≤M*pw 1074:=Nat.mul_le_mul_right _ (by omega);omega
     obtain ⟨n3,m3,b3,a3⟩:=jft s2 false rk 4604418534313441775 f2 (by decide);rw [show double.word false 4604418534313441775=4604418534313441775 from rfl,Bool.xor_false] at m3
     have hX3:v64 rk*v64 4604418534313441775<4503599627370496*pw 1034*pw 1074:=by
      rw [hL];refine Nat.lt_of_le_of_lt (Nat.mul_le_mul_right _ hMs) ?_;rw [Nat.mul_assoc,Nat.mul_comm (pw 1074),← Nat.mul_assoc];refine Nat.mul_lt_mul_of_pos_right ?_ hUp;omega
     obtain ⟨g7,g8,g9⟩:=grid hUp b3 a3 hX3;rw [jdE g9] at m3
     have k3:v64 rk*6243314768165359≤(v64 n3+pw 1034)*9007199254740992:=by
      rw [hL,hL2,← Nat.mul_assoc,← Nat.mul_assoc] at g7;exact Nat.le_of_mul_le_mul_right g7 hLp
     have k4:v64 n3*9007199254740992≤v64 rk*6243314768165359+pw 1034*9007199254740992:=by
      rw [hL,hL2,← Nat.mul_assoc,← Nat.mul_assoc,← Nat.mul_assoc,← Nat.add_mul] at g8;exact Nat.le_of_mul_le_mul_right g8 hLp
     have q3:=jiT (s:=s2) (x:=v64 rk) (n:=n3) (c:=6243314768165359) (d:=9007199254740992) (e:=(pw 1034:Nat)) (by omega) (by omega) (Y:=sv s2 rk) rfl;have q3a:=q3.1;have q3b:=q3.2;have q2a:=q2.1;have q2b:=q2.2;have hUi:((pw 1074:Nat):Int)=1099511627776*((pw 1034:Nat):Int):=by omega
     rw [hUi] at f6;have red:=jsZ (Y:=sv sy ry) (Z1:=sv sy n1) (Z2:=sv s2 n2) (A:=sv s2 rk) (KL:=sv s2 n3) (e:=(pw 1034:Nat)) (by omega) (by omega) (by omega) (by omega) f5 f6 (by omega) (by omega) hY1 hY2;obtain ⟨n4,m4,b4,-⟩:=jqG sy s2 ry n3 hry g9;have hn4:n4≤4600427019358961664:=b4 _ (by rw [hR,juB];have:=red.1;have:=red.2;omega);rw [jdE (by omega)] at m4;exact ⟨_,_,n2,s2,m1,m2,rfl,g6,M,rk,_,_,f1,f7,hM,hM2,f2,f3,m3,m4,_,n4,rfl,hn4⟩
theorem juC (rp:Nat) (h1:4600427019358961664≤rp) (h2:rp≤4609997168567123968) (sr:Bool) (rr:Nat) (h3:rr≤4600427019358961664) (q:Nat) (hq:q<9218868437227405312) (hq1:pw 1074≤v64 q) :
    ∃ a b c:Nat,double.mul (double.word false rp) (double.word sr rr)=some a∧double.div a (double.word false q)=some b∧double.add 4607182418800017408 b=some (double.word false c)∧4600427019358961664≤c∧c≤4609997168567123968:=by
     have v1:v64 4600427019358961664=3*pw 1071:=by decide +kernel
     have v2:v64 4603804719079489536=5*pw 1071:=by decide +kernel
     have v3:v64 4609997168567123968=13*pw 1071:=by decide +kernel
     have v4:v64 4607182418800017408=8*pw 1071:=by decide +kernel
     have v5:pw 1074=8*pw 1071:=by decide +kernel
     have hp:=jeH 1071;obtain ⟨n,m1,b1,-⟩:=jft false sr rp rr (by omega) (by omega)
     have hn:n≤4603804719079489536:=b1 _ (by
      refine Nat.le_trans (Nat.mul_le_mul (jeI h2) (jeI h3)) ?_;rw [v1,v2,v3,v5];generalize pw 1071=e at *;rw [show 13*e*(3*e)=39*(e*e) from by simp only [Nat.mul_left_comm,Nat.mul_comm,← Nat.mul_assoc];omega,show 5*e*(8*e)=40*(e*e) from by simp only [Nat.mul_left_comm,Nat.mul_comm,← Nat.mul_assoc];omega];omega)
     rw [jdE (by omega),Bool.false_xor] at m1;obtain ⟨nb,m2,b2⟩:=jqH sr n q (by omega) hq hq1;rw [jdE (by omega)] at m2;obtain ⟨c,m3,b3,a3⟩:=jlh false sr 4607182418800017408 nb (by decide) (by omega);rw [show double.word false 4607182418800017408=4607182418800017408 from rfl] at m3;have hb:v64 nb≤5*pw 1071:=by rw [← v2];exact jeI (by omega)
     have hS:sv false 4607182418800017408=8*((pw 1071:Nat):Int):=by unfold sv;rw [v4];simp
     have hs1 : -(5*((pw 1071:Nat):Int))≤sv sr nb:=by unfold sv;split <;> omega
     have hs2:sv sr nb≤5*((pw 1071:Nat):Int):=by unfold sv;split <;> omega
     rw [hS] at m3 b3 a3;have c1:c≤4609997168567123968:=b3 _ (by rw [v3];omega);have c2:4600427019358961664≤c:=a3 _ (by rw [v1];omega);rw [jdE (by omega),if_neg (by omega),decide_eq_false (by omega)] at m3;exact ⟨_,_,c,m1,m2,m3,c2,c1⟩
end Go.Proofs.YteigfipgmghgmaaGreatDoor.Nu.Mo
namespace Go.Proofs.YteigfipgmghgmaaGreatDoor.Nu
open Go.RowKit Mo
theorem jj8 (b:Nat) (hb:b<4294967296) (h:b % 2147483648<2139095040):∃ ry,cv b=Ieee.double.word (decide (2147483648≤b)) ry∧ry≤5188146770730811392∧v64 ry=val (b % 2147483648)*pw 925∧floatToFloatBits .f32 b .f64=some (cv b):=by
 obtain ⟨-,-,-,-,hfl⟩:=jlb b hb h;have hd:FloatKind.f32.decode b=rdm (decide (2147483648≤b)) (b % 2147483648):=jcg b hb;obtain ⟨m,d,e1,v1⟩:=jcu (decide (2147483648≤b)) (b % 2147483648) h;obtain ⟨hm,hdd⟩:=jgW b m d e1;obtain ⟨c,hc⟩ : ∃ c:Nat,c=925:=⟨_,rfl⟩
 obtain ⟨ry,hry⟩:=jj7 m (d+c) (by omega);have hv:v64 ry=val (b % 2147483648)*pw c:=by rw [hry,v1,jdD,jdD,Nat.pow_add,Nat.mul_assoc]
 have hx:m*2 ^ (-149+(d:Int)+((1074:Nat):Int)).toNat=v64 ry*pw 0:=by
  rw [hry,show (-149+(d:Int)+((1074:Nat):Int)).toNat=d+c from by omega];show _=m*pw (d+c)*1;rw [Nat.mul_one,jdD]
 have hn:rg m (-149+(d:Int))=ry:=jj6 (je6 _ _ ry 1074 0 rfl (by omega) (by omega) (Nat.le_of_eq hx)) (jhN _ _ ry 1074 0 rfl (by omega) (by omega) (Nat.le_of_eq hx.symm))
 have hlt:ry≤5188146770730811392:=jfT (by
  rw [hry,show v64 5188146770730811392=16777216*pw 1179 from by decide +kernel];exact Nat.mul_le_mul (by omega) (juy (by omega)))
 refine ⟨ry,?_,hlt,by rw [hv,hc],hfl⟩;unfold cv;rw [hd,e1];show Ieee.double.nearest _ _ _=_;rw [je5,hn,Nat.min_eq_left (by omega)]
end Go.Proofs.YteigfipgmghgmaaGreatDoor.Nu
namespace Go.Proofs.YteigfipgmghgmaaGreatDoor.Nu
open Go.RowKit
theorem jfU (m j:Nat) (h:m≠0):(m*2 ^ j).log2=m.log2+j:=by
 have h1:=Nat.log2_self_le h;have h2:m<2 ^ (m.log2+1):=Nat.lt_log2_self;have p:=Nat.two_pow_pos j;have h0:m*2 ^ j≠0:=Nat.mul_ne_zero h (by omega);rw [Nat.log2_eq_iff h0];constructor
 ·rw [Nat.pow_add];exact Nat.mul_le_mul_right _ h1
 ·have:=Nat.mul_lt_mul_of_pos_right h2 p;rw [show m.log2+j+1=m.log2+1+j from by omega,Nat.pow_add];exact this
theorem je7 (way:Ieee.Toward) (s:Bool) (n:Nat):way.cut s n 0=n:=by
 unfold Ieee.Toward.cut;have e:min 0 (n.log2+2)=0:=by omega
 rw [e];have e2:(1:Nat) <<< 0=1:=rfl;rw [e2];simp only [Nat.mod_one,Nat.div_one]
 cases way <;> simp
theorem jgY (way:Ieee.Toward) (s:Bool) (n j d:Nat) (hn:n≠0):way.cut s (n*2 ^ j) (d+j)=way.cut s n d:=by
 unfold Ieee.Toward.cut;rw [jfU n j hn];have p:=Nat.two_pow_pos j
 have eg:(1:Nat) <<< min (d+j) (n.log2+j+2)=(1 <<< min d (n.log2+2))*2 ^ j:=by
  rw [Nat.shiftLeft_eq,Nat.shiftLeft_eq,Nat.one_mul,Nat.one_mul,← Nat.pow_add]
  congr 1
  omega
 rw [eg];generalize (1:Nat) <<< min d (n.log2+2)=g;have e1:n*2 ^ j / (g*2 ^ j)=n / g:=Nat.mul_div_mul_right _ _ p;have e2:n*2 ^ j % (g*2 ^ j)=n % g*2 ^ j:=Nat.mul_mod_mul_right _ _ _;simp only [e1,e2];generalize n % g=r;generalize n / g=l;generalize 2 ^ j=q at p
 have c1:(g*q<2*(r*q))↔(g<2*r):=by
  rw [← Nat.mul_assoc];exact Nat.mul_lt_mul_right p
 have c2:(g*q==2*(r*q))=(g==2*r):=by
  rw [← Nat.mul_assoc,Bool.eq_iff_iff,beq_iff_eq,beq_iff_eq];exact ⟨fun e=>Nat.eq_of_mul_eq_mul_right p e,fun e=>by rw [e]⟩
 have c3:(r*q != 0)=(r != 0):=by
  rw [Bool.eq_iff_iff,bne_iff_ne,bne_iff_ne];exact ⟨fun e h=>e (by rw [h,Nat.zero_mul]),fun e=>Nat.mul_ne_zero e (by omega)⟩
 cases way <;> simp [c1,c2,c3]
theorem jnD (way:Ieee.Toward) (s:Bool) (n j d:Nat) (hn:n≠0) (h:d≤j):way.cut s (n*2 ^ j) d=n*2 ^ (j - d):=by
 have e:n*2 ^ j=n*2 ^ (j - d)*2 ^ d:=by
  rw [Nat.mul_assoc,← Nat.pow_add];congr 2;omega
 rw [e];have h0:n*2 ^ (j - d)≠0:=Nat.mul_ne_zero hn (by have:=Nat.two_pow_pos (j - d);omega);have:=jgY way s (n*2 ^ (j - d)) d 0 h0;rw [Nat.zero_add] at this;rw [this,je7]
theorem jiU (way:Ieee.Toward) (s:Bool) (m j:Nat) (p:Int) (hm:m≠0):way.cut s ((m*2 ^ j) <<< p.toNat) (-p).toNat=way.cut s (m <<< (p+j).toNat) (-(p+j)).toNat:=by
 rw [Nat.shiftLeft_eq,Nat.shiftLeft_eq]
 by_cases h1:0≤p
 ·have a1:(-p).toNat=0:=by omega
  have a2:(-(p+(j:Int))).toNat=0:=by omega
  have a3:(p+(j:Int)).toNat=j+p.toNat:=by omega
  rw [a1,a2,a3,je7,je7,Nat.mul_assoc,← Nat.pow_add]
 ·have a1:p.toNat=0:=by omega
  rw [a1,Nat.pow_zero,Nat.mul_one]
  by_cases h2:0≤p+(j:Int)
  ·have a2:(-(p+(j:Int))).toNat=0:=by omega
   rw [a2,je7,jnD way s m j (-p).toNat hm (by omega)]
   congr 2
   omega
  ·have a2:(p+(j:Int)).toNat=0:=by omega
   have a3:(-p).toNat=(-(p+(j:Int))).toNat+j:=by omega
   rw [a2,Nat.pow_zero,Nat.mul_one,a3,jgY way s m j _ hm]
theorem jcn (f:Ieee.Format) (s:Bool) (m j:Nat) (p:Int) (hm:m≠0):f.nearest s (m*2 ^ j) p=f.nearest s m (p+j):=by
 have h0:m*2 ^ j≠0:=Nat.mul_ne_zero hm (by have:=Nat.two_pow_pos j;omega);unfold Ieee.Format.nearest;rw [if_neg h0,if_neg hm,jfU m j hm];have e1:p+((m.log2+j:Nat):Int) - (f.fractionBits:Int)=p+(j:Int)+(m.log2:Int) - (f.fractionBits:Int):=by omega
 simp only [e1];generalize max (p+(j:Int)+(m.log2:Int) - (f.fractionBits:Int)) f.leastPlace=last;have e2:=jiU .even s m j (p - last) hm;rw [show -(p - last)=last - p from by omega,show p - last+(j:Int)=p+j - last from by omega,show -(p+(j:Int) - last)=last - (p+j) from by omega] at e2;rw [e2]
def fl (s:Bool) (m:Nat) (i:Int):Nat:=Ieee.Toward.down.cut s (m <<< i.toNat) (-i).toNat
theorem jiV (s:Bool) (m j:Nat) (p:Int) (hm:m≠0):fl s (m*2 ^ j) p=fl s m (p+j):=jiU .down s m j p hm
theorem jli (s:Bool) (m:Nat) (i:Int) (h:0≤i):fl s m i=m*2 ^ i.toNat:=by
 unfold fl;rw [show (-i).toNat=0 from by omega,je7,Nat.shiftLeft_eq]
theorem js0 (s:Bool) (m:Nat) (i:Int) (h:i<0) (hm:m<16777216):fl s m i<16777216:=by
 unfold fl Ieee.Toward.cut;rw [show i.toNat=0 from by omega,Nat.shiftLeft_zero];generalize hg:(1:Nat) <<< min (-i).toNat (m.log2+2)=g
 have hg2:2≤g:=by
  rw [← hg,Nat.shiftLeft_eq,Nat.one_mul];have:2 ^ 1≤2 ^ min (-i).toNat (m.log2+2):=Nat.pow_le_pow_right (by decide) (by omega);simpa using this
 have h1:m / g≤m / 2:=Nat.div_le_div_left hg2 (by decide);simp only
 cases hq:(s&&m % g != 0) <;> simp <;> omega
theorem jiW (s:Bool) (m:Nat) (i:Int) (hm:m<16777216) (hi:i≤104):∃ a k:Nat,fl s m i=a*2 ^ k∧a<16777216∧k≤104:=by
 by_cases h:0≤i
 ·exact ⟨m,i.toNat,jli s m i h,hm,by omega⟩
 ·exact ⟨fl s m i,0,by rw [Nat.pow_zero,Nat.mul_one],js0 s m i (by omega) hm,by omega⟩
theorem jiX (s:Bool) (r:Nat) (h:r<2147483648):Ieee.single.word s r % 2147483648=r∧(Ieee.single.word s r / 2147483648 % 2==1)=s:=by
 have e5:Ieee.single.signWeight=2147483648:=rfl;unfold Ieee.Format.word;rw [e5]
 cases s with
 | false =>
  rw [if_neg (by decide)];exact ⟨Nat.mod_eq_of_lt h,by rw [Nat.div_eq_of_lt h];rfl⟩
 | true =>
  rw [if_pos rfl];have:(2147483648+r) / 2147483648=1:=by omega
  exact ⟨by omega,by rw [this];rfl⟩
theorem jnE (s:Bool) (E K:Nat) (k1:8388608≤K) (k2:K<16777216) (hE:E≤253):Ieee.single.read (Ieee.single.word s (E*8388608+K))=.number s K (-149+(E:Int)):=by
 have e1:Ieee.single.leastPlace = -149:=rfl;have e2:Ieee.single.binade=8388608:=rfl;have e3:Ieee.single.infRung=2139095040:=rfl;have e5:Ieee.single.signWeight=2147483648:=rfl;obtain ⟨w1,w2⟩:=jiX s (E*8388608+K) (by omega);unfold Ieee.Format.read;simp only [e1,e2,e3,e5];rw [w1,w2,if_neg (by omega),if_pos (by omega)];have q1:8388608+(E*8388608+K) % 8388608=K:=by omega
 have q2:(E*8388608+K) / 8388608 - 1=E:=by omega
 rw [q1,q2]
theorem jr8 (s:Bool) (m:Nat) (p:Int) (h0:m≠0) (hm:m<16777216) (hp : -100≤p) (hq:p≤104) :
    Ieee.single.read (Ieee.single.nearest s m p)=.number s (m*2 ^ (23 - m.log2)) (p - (23 - m.log2:Nat))∧∃ r,Ieee.single.nearest s m p=Ieee.single.word s r∧r<2139095040:=by
     have l1:=Nat.log2_self_le h0;have l2:m<2 ^ (m.log2+1):=Nat.lt_log2_self
     have hl:m.log2≤23:=by
      have:=(Nat.log2_lt h0).2 (show m<2 ^ 24 from hm);omega
     have e1:Ieee.single.leastPlace = -149:=rfl;have e2:Ieee.single.binade=8388608:=rfl;have e3:Ieee.single.infRung=2139095040:=rfl;have e4:Ieee.single.fractionBits=23:=rfl
     have k1:8388608≤m*2 ^ (23 - m.log2):=by
      have:2 ^ m.log2*2 ^ (23 - m.log2)≤m*2 ^ (23 - m.log2):=Nat.mul_le_mul_right _ l1;rw [← Nat.pow_add,show m.log2+(23 - m.log2)=23 from by omega] at this;simpa using this
     have k2:m*2 ^ (23 - m.log2)<16777216:=by
      have:m*2 ^ (23 - m.log2)<2 ^ (m.log2+1)*2 ^ (23 - m.log2):=Nat.mul_lt_mul_of_pos_right l2 (Nat.two_pow_pos _);rw [← Nat.pow_add,show m.log2+1+(23 - m.log2)=24 from by omega] at this;simpa using this
     have hnear:Ieee.single.nearest s m p=Ieee.single.word s (min ((p - ((23 - m.log2:Nat):Int) - -149).toNat*8388608+m*2 ^ (23 - m.log2)) 2139095040):=by
      unfold Ieee.Format.nearest;rw [if_neg h0];simp only [e1,e2,e3,e4];have hc:max (p+(m.log2:Int) - ((23:Nat):Int)) (-149)=p - ((23 - m.log2:Nat):Int):=by omega
      rw [hc];have d1:(p - (p - ((23 - m.log2:Nat):Int))).toNat=23 - m.log2:=by omega
      have d2:(p - ((23 - m.log2:Nat):Int) - p).toNat=0:=by omega
      rw [d1,d2,je7,Nat.shiftLeft_eq]
     generalize hK:m*2 ^ (23 - m.log2)=K at *;generalize hE:(p - ((23 - m.log2:Nat):Int) - -149).toNat=E at *;have hEb:E≤253:=by omega
     have hEp:p - ((23 - m.log2:Nat):Int) = -149+(E:Int):=by omega
     have hlt:E*8388608+K<2139095040:=by omega
     rw [Nat.min_eq_left (Nat.le_of_lt hlt)] at hnear;rw [hnear,hEp];exact ⟨jnE s E K k1 k2 hEb,_,rfl,hlt⟩
theorem jj9 (s:Bool) (i:Int):fl s 0 i=0:=by
 unfold fl Ieee.Toward.cut;rw [Nat.zero_shiftLeft];simp
theorem jnF (s:Bool) (m:Nat) (i:Int) (h:m=0):fl s m i=0:=by rw [h,jj9]
def flW (b:Nat):Nat:=match FloatKind.f32.decode b with
 | .number s m i=>Ieee.single.nearest s (fl s m i) 0
 | _=>b
def FlS (x r:Nat):Prop:=match FloatKind.f64.decode x with
 | .nan _ _=>(FloatKind.f64.decode r).isNaN=true
 | d=>r=FloatKind.f64.encode (d.integral .down)
theorem jiY (b:Nat) (hb:b<4294967296) (h:b % 2147483648<2139095040):∃ (m:Nat) (i:Int),FloatKind.f32.decode b=.number (decide (2147483648≤b)) m i∧m<16777216 ∧ -149≤i∧i≤104:=by
 have hd:FloatKind.f32.decode b=rdm (decide (2147483648≤b)) (b % 2147483648):=jcg b hb;rw [hd];unfold rdm
 by_cases h1:b % 2147483648<8388608
 ·rw [if_pos h1];exact ⟨_,_,rfl,by omega,by omega,by omega⟩
 ·rw [if_neg h1,if_pos h];exact ⟨_,_,rfl,by omega,by omega,by omega⟩
theorem jd3 (s:Bool):FloatKind.f64.decode (Ieee.double.word s 0)=.number s 0 (-1074):=by cases s <;> decide +kernel
theorem je8 (s:Bool):FloatKind.f32.decode (Ieee.single.word s 0)=.number s 0 (-149):=by cases s <;> decide +kernel
theorem jcR (f:Ieee.Format) (s:Bool) (p:Int):f.nearest s 0 p=f.word s 0:=by unfold Ieee.Format.nearest;rw [if_pos rfl]
theorem js1 (b:Nat) (s:Bool) (m:Nat) (i:Int) (hd:FloatKind.f32.decode b=.number s m i) (hm:m<16777216) (h1 : -149≤i) (h2:i≤104):∃ r,floatToFloatBits .f32 b .f64=some r∧((m=0∧FloatKind.f64.decode r=.number s 0 (-1074))∨(m≠0∧∃ k:Nat,FloatKind.f64.decode r=.number s (m*2 ^ k) (i - k))):=by
 unfold floatToFloatBits;rw [if_neg (by decide),hd];simp only
 by_cases h0:m=0
 ·subst h0;have ew:FloatKind.f64.encode (.number s 0 i)=Ieee.double.word s 0:=jcR Ieee.double s i;rw [ew,jd3];exact ⟨_,rfl,.inl ⟨rfl,jd3 s⟩⟩
 ·obtain ⟨r,w1,w2,w3⟩:=jj4 s m i h0 (by omega) (by omega) (by omega);have ew:FloatKind.f64.encode (.number s m i)=Ieee.double.word s r:=w1;have er:FloatKind.f64.decode (Ieee.double.word s r)=.number s (m*2 ^ (52 - m.log2)) (i - (52 - m.log2:Nat)):=w3;rw [ew,er];exact ⟨_,rfl,.inr ⟨h0,_,er⟩⟩
theorem jnG (r:Nat) (s:Bool) (a k:Nat) (ha:a<16777216) (hk:k≤104) (hr:r=FloatKind.f64.encode (.number s (a*2 ^ k) 0)):floatToFloatBits .f64 r .f32=some (Ieee.single.nearest s (a*2 ^ k) 0):=by
 unfold floatToFloatBits;rw [if_neg (by decide)]
 by_cases h0:a=0
 ·subst h0;rw [Nat.zero_mul] at hr ⊢;have ew:FloatKind.f64.encode (.number s 0 0)=Ieee.double.word s 0:=jcR Ieee.double s 0;rw [hr,ew,jd3];simp only;have e2:FloatKind.f32.encode (.number s 0 (-1074))=Ieee.single.word s 0:=jcR Ieee.single s (-1074);rw [e2,je8,jcR]
  rfl
 ·have e1:FloatKind.f64.encode (.number s (a*2 ^ k) 0)=Ieee.double.nearest s a (0+k):=jcn Ieee.double s a k 0 h0;rw [Int.zero_add] at e1;obtain ⟨r',w1,w2,w3⟩:=jj4 s a k h0 (by omega) (by omega) (by omega);have er:FloatKind.f64.decode r=.number s (a*2 ^ (52 - a.log2)) (k - (52 - a.log2:Nat)):=by rw [hr,e1,w1];exact w3
  rw [er];simp only
  have e3:FloatKind.f32.encode (.number s (a*2 ^ (52 - a.log2)) ((k:Int) - (52 - a.log2:Nat)))=Ieee.single.nearest s a k:=by
   have:=jcn Ieee.single s a (52 - a.log2) ((k:Int) - (52 - a.log2:Nat)) h0;rw [show (k:Int) - ((52 - a.log2:Nat):Int)+((52 - a.log2:Nat):Int)=k from by omega] at this;exact this
  obtain ⟨n1,-⟩:=jr8 s a k h0 ha (by omega) (by omega);have n2:FloatKind.f32.decode (Ieee.single.nearest s a k)=.number s (a*2 ^ (23 - a.log2)) ((k:Int) - (23 - a.log2:Nat)):=n1;rw [e3,n2];have e4:=jcn Ieee.single s a k 0 h0;rw [Int.zero_add] at e4;rw [e4]
  rfl
theorem fl_in (b:Nat) (hb:b<4294967296) (h:b % 2147483648<2139095040) (w1 w2:World) (r:Nat) (hr:FlS (cval .f32 .f64 b w1) r):cval .f64 .f32 r w2=flW b:=by
 obtain ⟨m,i,hd,hm,i1,i2⟩:=jiY b hb h;generalize decide (2147483648≤b)=s at hd;obtain ⟨x,hx,hc⟩:=js1 b s m i hd hm i1 i2;have ec:cval .f32 .f64 b w1=x:=by unfold cval;rw [hx]
 rw [ec] at hr;have eW:flW b=Ieee.single.nearest s (fl s m i) 0:=by unfold flW;rw [hd]
 obtain ⟨a,k,e1,ha,hk⟩:=jiW s m i hm i2
 have hrr:r=FloatKind.f64.encode (.number s (a*2 ^ k) 0):=by
  unfold FlS at hr
  rcases hc with ⟨h0,hdx⟩ | ⟨h0,q,hdx⟩
  ·rw [hdx] at hr;simp only [Ieee.Datum.integral] at hr;have e2:Ieee.Toward.down.cut s (0 <<< (-1074:Int).toNat) (-(-1074:Int)).toNat=fl s 0 (-1074):=rfl;rw [e2,jj9] at hr;rw [← e1,jnF s m i h0];exact hr
  ·rw [hdx] at hr;simp only [Ieee.Datum.integral] at hr
   have e2:Ieee.Toward.down.cut s ((m*2 ^ q) <<< (i - (q:Int)).toNat) (-(i - (q:Int))).toNat=fl s m i:=by
    have:=jiV s m q (i - q) h0;rw [show i - (q:Int)+(q:Int)=i from by omega] at this;exact this
   rw [e2,e1] at hr;exact hr
 have ed:=jnG r s a k ha hk hrr;rw [eW,e1];unfold cval;rw [ed]
theorem jhO (b:Nat) (hb:b<4294967296) (h:b % 2147483648=2139095040):∃ s,FloatKind.f32.decode b=.infinity s∧FloatKind.f32.encode (.infinity s)=b:=by
 have hd:FloatKind.f32.decode b=rdm (decide (2147483648≤b)) (b % 2147483648):=jcg b hb;rw [hd,h];refine ⟨decide (2147483648≤b),by unfold rdm;rw [if_neg (by decide),if_neg (by decide),if_pos rfl],?_⟩
 by_cases hs:2147483648≤b
 ·rw [decide_eq_true hs];have:b=4286578688:=by omega
  rw [this];decide +kernel
 ·rw [decide_eq_false hs];have:b=2139095040:=by omega
  rw [this];decide +kernel
theorem jqK (s:Bool):FloatKind.f64.decode (FloatKind.f64.encode (.infinity s))=.infinity s:=by cases s <;> decide +kernel
theorem juD (b:Nat) (hb:b<4294967296) (h:b % 2147483648=2139095040) (w1 w2:World) (r:Nat) (hr:FlS (cval .f32 .f64 b w1) r):cval .f64 .f32 r w2=flW b:=by
 obtain ⟨s,hd,he⟩:=jhO b hb h;have e1:floatToFloatBits .f32 b .f64=some (FloatKind.f64.encode (.infinity s)):=by unfold floatToFloatBits;rw [if_neg (by decide),hd]
 have ec:cval .f32 .f64 b w1=FloatKind.f64.encode (.infinity s):=by unfold cval;rw [e1]
 rw [ec] at hr;unfold FlS at hr;rw [jqK] at hr;simp only [Ieee.Datum.integral] at hr;have e2:floatToFloatBits .f64 r .f32=some b:=by unfold floatToFloatBits;rw [if_neg (by decide),hr,jqK];simp only [he]
 have eW:flW b=b:=by unfold flW;rw [hd]
 rw [eW];unfold cval;rw [e2]
theorem js2 (t b:Nat):(FloatKind.f64.decode ((Question.nanConv .f64 b).cut t)).isNaN=true:=by
 have h1:=Nat.mod_lt t (show 0<2 by decide);have h2:=Nat.mod_lt (t / 2) (show 0<4503599627370495 by decide);have e:(Question.nanConv .f64 b).cut t=(t % 2)*9223372036854775808+9218868437227405312+1+(t / 2) % 4503599627370495:=rfl;rw [e];generalize t % 2=x at *;generalize t / 2 % 4503599627370495=y at *;have e1:Ieee.double.leastPlace = -1074:=rfl;have e2:Ieee.double.binade=4503599627370496:=rfl;have e3:Ieee.double.infRung=9218868437227405312:=rfl;have e5:Ieee.double.signWeight=9223372036854775808:=rfl;show (Ieee.double.read _).isNaN=true;unfold Ieee.Format.read;simp only [e1,e2,e3,e5];rw [if_neg (by omega),if_neg (by omega),if_neg (by omega)]
 rfl
theorem juE (b:Nat) (hb:b<4294967296) (h:2139095040<b % 2147483648) (w1 w2:World) (r:Nat) (hr:FlS (cval .f32 .f64 b w1) r):tob (cval .f64 .f32 r w2)=2143289344:=by
 have hn:(FloatKind.f32.decode b).isNaN=true:=by
  have:=jbs b hb;rw [decide_eq_true h] at this;exact this
 have e1:floatToFloatBits .f32 b .f64=none:=by
  unfold floatToFloatBits;rw [if_neg (by decide)]
  cases hd:FloatKind.f32.decode b with
  | nan s t=>rfl
  | number s m i=>rw [hd] at hn;cases hn
  | infinity s=>rw [hd] at hn;cases hn
 have hx:(FloatKind.f64.decode (cval .f32 .f64 b w1)).isNaN=true:=by
  unfold cval cq;rw [e1,if_pos hn];exact js2 _ b
 have hrn:(FloatKind.f64.decode r).isNaN=true:=by
  unfold FlS at hr
  cases hd:FloatKind.f64.decode (cval .f32 .f64 b w1) with
  | nan s t=>rw [hd] at hr;exact hr
  | number s m i=>rw [hd] at hx;cases hx
  | infinity s=>rw [hd] at hx;cases hx
 have e2:floatToFloatBits .f64 r .f32=none:=by
  unfold floatToFloatBits;rw [if_neg (by decide)]
  cases hd:FloatKind.f64.decode r with
  | nan s t=>rfl
  | number s m i=>rw [hd] at hrn;cases hrn
  | infinity s=>rw [hd] at hrn;cases hrn
 unfold cval cq;rw [e2,if_pos hrn];exact jhI _ r r
def flB (b:Nat):Int:=if 2139095040<b % 2147483648 then 2143289344 else (flW b:Int)
def flT (x:Int):Int:=flB (fb x)
theorem flW_fin (b:Nat) (hb:b<4294967296) (h:b % 2147483648<2139095040):flW b<4294967296∧flW b % 2147483648<2139095040∧flW (flW b)=flW b:=by
 obtain ⟨m,i,hd,hm,i1,i2⟩:=jiY b hb h;generalize decide (2147483648≤b)=s at hd;have eW:flW b=Ieee.single.nearest s (fl s m i) 0:=by unfold flW;rw [hd]
 obtain ⟨a,k,e1,ha,hk⟩:=jiW s m i hm i2;rw [eW,e1]
 have wd:∀ r,r<2139095040→Ieee.single.word s r<4294967296∧Ieee.single.word s r % 2147483648<2139095040:=by
  intro r hr;have e5:Ieee.single.signWeight=2147483648:=rfl;unfold Ieee.Format.word;rw [e5]
  cases s with
  | false=>rw [if_neg (by decide)];omega
  | true=>rw [if_pos rfl];omega
 by_cases h0:a=0
 ·subst h0;rw [Nat.zero_mul,jcR];obtain ⟨d1,d2⟩:=wd 0 (by omega);refine ⟨d1,d2,?_⟩;unfold flW;rw [je8];simp only [jj9,jcR]
 ·have e4:=jcn Ieee.single s a k 0 h0;rw [Int.zero_add] at e4;obtain ⟨n1,r,n2,n3⟩:=jr8 s a k h0 ha (by omega) (by omega);have hw:=wd r n3;rw [e4];refine ⟨by rw [n2];exact hw.1,by rw [n2];exact hw.2,?_⟩;have n4:FloatKind.f32.decode (Ieee.single.nearest s a k)=.number s (a*2 ^ (23 - a.log2)) ((k:Int) - (23 - a.log2:Nat)):=n1;unfold flW;rw [n4];simp only;have e6:=jiV s a (23 - a.log2) ((k:Int) - (23 - a.log2:Nat)) h0;rw [show (k:Int) - ((23 - a.log2:Nat):Int)+((23 - a.log2:Nat):Int)=k from by omega] at e6;rw [e6,jli s a k (by omega),Int.toNat_natCast,e4]
end Go.Proofs.YteigfipgmghgmaaGreatDoor.Nu
