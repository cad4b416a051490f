/- A part. -/
import Derived.WalkKit
import Derived.WalkSpells
import Derived.WalkLawsBesides
import Derived.Laws.FloatArith
import Derived.Laws.BitsAllLaws
namespace Go.Proofs.YteigfipgmghgmaaGreatDoor.Nu
open Go.RowKit
theorem jgv (a:Nat) (h:a<4294967296):a &&& 18446744071562067967=a % 2147483648:=by
 have h1:a &&& 4294967295=a:=by
  have:=Nat.and_two_pow_sub_one_eq_mod a 32;simp only [Nat.reducePow,Nat.reduceSub] at this;rw [this];exact Nat.mod_eq_of_lt h
 have h2:a % 2147483648=a &&& 2147483647:=by
  have:=Nat.and_two_pow_sub_one_eq_mod a 31;simp only [Nat.reducePow,Nat.reduceSub] at this;exact this.symm
 rw [h2]
 conv=>lhs;rw [← h1]
 rw [Nat.and_assoc];have e:(4294967295:Nat) &&& 18446744071562067967=2147483647:=by decide
 rw [e]
theorem jb4 (n:Int):IntKind.i64.wrap n=wrap64 n:=by
 simp [IntKind.wrap,IntKind.bits,IntKind.signed,wrap64];split <;> omega
theorem jen (x:Int) (h0:0≤x) (h:x<4294967296):bits .andNot .i64 x 2147483648=x % 2147483648:=by
 obtain ⟨a,rfl⟩:=Int.eq_ofNat_of_zero_le h0;have ha:a<4294967296:=by omega
 show IntKind.i64.wrap ((BitVec.ofInt 64 (a:Int) &&& ~~~BitVec.ofInt 64 (2147483648:Int)).toNat:Int)=_;have e1:(BitVec.ofInt 64 (a:Int)).toNat=a:=ofInt_u64 a (by omega);have e2:(~~~BitVec.ofInt 64 (2147483648:Int)).toNat=18446744071562067967:=by decide
 rw [BitVec.toNat_and,e1,e2,jgv a ha];have hm:a % 2147483648<2147483648:=Nat.mod_lt _ (by decide);have:((a % 2147483648:Nat):Int)=(a:Int) % 2147483648:=by omega
 rw [this];rw [jb4];unfold wrap64;omega
def chk (t x:Int):Bool :=
 if t=1 then decide (0≤x∧x<4294967296∧(x=2143289344∨x % 2147483648≤2139095040))
 else if t=6 then decide (-2147483648≤x∧x≤2147483647)
 else if t=7 then true
 else if t=9 then decide (x=0∨x=1)
 else false
theorem chk6 (x:Int):(x==wrap64 (wrap32 x))=decide (-2147483648≤x∧x≤2147483647):=by
 rw [Bool.eq_iff_iff];simp only [beq_iff_eq,decide_eq_true_eq];unfold wrap64 wrap32;omega
theorem jcq (t x:Int) (h:t=1):chk t x=decide (0≤x∧x<4294967296∧(x=2143289344∨x % 2147483648≤2139095040)):=by
 simp [chk,h]
end Go.Proofs.YteigfipgmghgmaaGreatDoor.Nu
namespace Go.Proofs.YteigfipgmghgmaaGreatDoor.Nu
open Go.RowKit
def tob (b:Nat):Int:=if (FloatKind.f32.format.order b b != some .eq)=true then 2143289344 else (b:Int)
def tobO:Option Nat→Int
 | none=>2143289344
 | some r=>tob r
def fb (x:Int):Nat:=(x % 4294967296).toNat
theorem jcC (x:Int):fb x<4294967296:=by unfold fb;omega
theorem jbs (d:Ieee.Datum):d.order d=if d.isNaN then none else some .eq:=by
 cases d <;> simp [Ieee.Datum.order,Ieee.Datum.isNaN]
theorem jes (b:Nat):FloatKind.f32.format.order b b=if (FloatKind.f32.format.read b).isNaN then none else some .eq:=jbs _
theorem jsl (b:Nat):tob b=if (FloatKind.f32.format.read b).isNaN then 2143289344 else (b:Int):=by
 unfold tob;rw [jes]
 cases (FloatKind.f32.format.read b).isNaN <;> simp
theorem jdr (b:Nat) (_h:b<4294967296):(FloatKind.f32.format.read b).isNaN=decide (2139095040<b % 2147483648):=by
 have e1:FloatKind.f32.format.signWeight=2147483648:=rfl;have e2:FloatKind.f32.format.binade=8388608:=rfl;have e3:FloatKind.f32.format.infRung=2139095040:=rfl;have e4:FloatKind.f32.format.leastPlace = -149:=rfl;unfold Ieee.Format.read;simp only [e1,e2,e3,e4]
 split
 ·simp [Ieee.Datum.isNaN];omega
 ·split
  ·simp [Ieee.Datum.isNaN];omega
  ·split
   ·simp [Ieee.Datum.isNaN];omega
   ·simp [Ieee.Datum.isNaN];omega
theorem jlU (b:Nat) (h:b<4294967296):tob b=if 2139095040<b % 2147483648 then 2143289344 else (b:Int):=by
 rw [jsl,jdr b h];simp
theorem chk_tob (b:Nat) (h:b<4294967296):chk 1 (tob b)=true:=by
 rw [jlU b h,jcq 1 _ rfl]
 split
 ·decide
 ·simp;omega
theorem jqQ (t:Nat) (x y:Nat):tob ((Question.nanBits .f32 x y).cut t)=2143289344:=by
 have h1:=Nat.mod_lt t (show 0<2 by decide);have h2:=Nat.mod_lt (t / 2) (show 0<8388607 by decide);have e:(Question.nanBits .f32 x y).cut t=(t % 2)*2147483648+2139095040+1+(t / 2) % 8388607:=rfl;rw [e];generalize t % 2=a at *;generalize t / 2 % 8388607=b at *;rw [jlU _ (by omega),if_pos (by omega)]
def nb (x y t:Nat):Nat:=(Question.nanBits .f32 x y).cut t
theorem jhP (x y t:Nat):nb x y t<4294967296:=by
 have h1:=Nat.mod_lt t (show 0<2 by decide);have h2:=Nat.mod_lt (t / 2) (show 0<8388607 by decide);have e:nb x y t=(t % 2)*2147483648+2139095040+1+(t / 2) % 8388607:=rfl;rw [e];generalize t % 2=a at *;generalize t / 2 % 8388607=b at *;omega
theorem jf5 (x y t:Nat):tob (nb x y t)=2143289344:=jqQ t x y
theorem jca {P:Program} (w:World) (op:BinOp) (t:TypeId) (x y:Nat) (ho:op=.add∨op=.sub∨op=.mul∨op=.quo) (h:floatBits op .f32 x y=none) :
    (binOp op t (.float .f32 x) (.float .f32 y)).run P w=.ok (.float .f32 (nb x y (w.tape w.drawn (.nanBits .f32 x y)))) w.drew:=by
     unfold floatBits at h
     rcases ho with rfl | rfl | rfl | rfl <;> simp only at h <;> simp [binOp,Op.floatArith,h,nb,Question.forced]
end Go.Proofs.YteigfipgmghgmaaGreatDoor.Nu
namespace Go.Proofs.YteigfipgmghgmaaGreatDoor.Nu
open Go.RowKit
def b2i (b:Bool):Int:=if b then 1 else 0
def ord (x y:Nat):Option Ordering:=FloatKind.f32.format.order x y
def maxF (x y:Nat):Int :=
 match ord x y with
 | none=>2143289344
 | some .lt=>tob y
 | some .gt=>tob x
 | some .eq=>if (FloatKind.f32.decode x).neg then tob y else tob x
def minF (x y:Nat):Int :=
 match ord x y with
 | none=>2143289344
 | some .lt=>tob x
 | some .gt=>tob y
 | some .eq=>if (FloatKind.f32.decode x).neg then tob x else tob y
def binFl (k:Nat) (x y:Nat):Int×Int :=
 match k with
 | 0=>(tobO (floatBits .add .f32 x y),0)
 | 1=>(tobO (floatBits .sub .f32 x y),0)
 | 2=>(tobO (floatBits .mul .f32 x y),0)
 | 3=>(tobO (floatBits .quo .f32 x y),0)
 | 4=>(maxF x y,0)
 | 5=>(minF x y,0)
 | 9=>(b2i (ord x y==some .eq),0)
 | 10=>(b2i (ord x y==some .lt),0)
 | 11=>(b2i (ord x y==some .gt),0)
 | _=>(0,1)
def wrapT (t n:Int):Int:=if t=6 then wrap64 (wrap32 n) else n
def maxI (x y:Int):Int:=if y > x then y else x
def minI (x y:Int):Int:=if y<x then y else x
def binIn (k:Nat) (t x y:Int):Int×Int :=
 match k with
 | 0=>(wrapT t (wrap64 (x+y)),0)
 | 1=>(wrapT t (wrap64 (x - y)),0)
 | 2=>(wrapT t (wrap64 (x*y)),0)
 | 3=>if y=0 then (0,7) else (wrapT t (wrap64 (x.tdiv y)),0)
 | 4=>(wrapT t (maxI x y),0)
 | 5=>(wrapT t (minI x y),0)
 | 9=>(b2i (x==y),0)
 | 10=>(b2i (decide (x<y)),0)
 | 11=>(b2i (decide (y<x)),0)
 | _=>(0,1)
def binBo (k:Nat) (x y:Int):Int×Int :=
 match k with
 | 6=>(x*y,0)
 | 7=>(x+y - x*y,0)
 | 8=>(x+y - 2*(x*y),0)
 | 9=>(b2i (x==y),0)
 | _=>(0,1)
def bin (k:Nat) (t x y:Int):Int×Int :=
 if (chk t x&&chk t y)=true then (if t=1 then binFl k (fb x) (fb y) else if t=9 then binBo k x y else binIn k t x y) else (0,1)
section
variable {P : Program} (w : World) (ts : Array TypeId) (t : TypeId) (x y : Nat)
theorem jgK (h:ord x y=none):(Builtin.max_ ts t #[.float .f32 x,.float .f32 y]).run P w=.ok (.float .f32 (nb x y (w.tape w.drawn (.nanMinMax .f32 true x y)))) w.drew:=by
 unfold ord at h;simp [Builtin.max_,Builtin.max2,h,nb,Question.forced,Question.cut]
theorem jgL (h:ord x y=none):(Builtin.min_ ts t #[.float .f32 x,.float .f32 y]).run P w=.ok (.float .f32 (nb x y (w.tape w.drawn (.nanMinMax .f32 false x y)))) w.drew:=by
 unfold ord at h;simp [Builtin.min_,Builtin.min2,h,nb,Question.forced,Question.cut]
theorem jiM (h:ord x y=some .lt):(Builtin.max_ ts t #[.float .f32 x,.float .f32 y]).run P w=.ok (.float .f32 y) w:=by
 unfold ord at h;simp [Builtin.max_,Builtin.max2,h]
theorem jiN (h:ord x y=some .lt):(Builtin.min_ ts t #[.float .f32 x,.float .f32 y]).run P w=.ok (.float .f32 x) w:=by
 unfold ord at h;simp [Builtin.min_,Builtin.min2,h]
theorem jiO (h:ord x y=some .gt):(Builtin.max_ ts t #[.float .f32 x,.float .f32 y]).run P w=.ok (.float .f32 x) w:=by
 unfold ord at h;simp [Builtin.max_,Builtin.max2,h]
theorem jiP (h:ord x y=some .gt):(Builtin.min_ ts t #[.float .f32 x,.float .f32 y]).run P w=.ok (.float .f32 y) w:=by
 unfold ord at h;simp [Builtin.min_,Builtin.min2,h]
theorem je6 (h:ord x y=some .eq):(Builtin.max_ ts t #[.float .f32 x,.float .f32 y]).run P w=.ok (.float .f32 (if (FloatKind.f32.decode x).neg then y else x)) w:=by
 unfold ord at h;simp [Builtin.max_,Builtin.max2,h]
theorem je7 (h:ord x y=some .eq):(Builtin.min_ ts t #[.float .f32 x,.float .f32 y]).run P w=.ok (.float .f32 (if (FloatKind.f32.decode x).neg then x else y)) w:=by
 unfold ord at h;simp [Builtin.min_,Builtin.min2,h]
end
end Go.Proofs.YteigfipgmghgmaaGreatDoor.Nu
namespace Go.Proofs.YteigfipgmghgmaaGreatDoor.Nu
open Go.RowKit
theorem jko (b:Nat) (h:b<4294967296):bits .andNot .u32 (b:Int) 2147483648=((b % 2147483648:Nat):Int):=by
 have e:=u32_andNot_nat b 2147483648 h (by decide);have e':bits .andNot .u32 (b:Int) 2147483648=((b &&& (4294967295 - 2147483648):Nat):Int):=e;rw [e'];have:=Nat.and_two_pow_sub_one_eq_mod b 31;simp only [Nat.reducePow,Nat.reduceSub] at this ⊢;rw [this]
def jr5 (b:Nat):Nat:=b ^^^ 2147483648
def jqR (b:Nat):Nat:=b % 2147483648
def je8 (b:Nat):Nat:=if (FloatKind.f32.format.order b 0==some .gt)=true then b else if (FloatKind.f32.format.order b b != some .eq)=true then b else 0
theorem jgM (b:Nat):Op.unary .neg (.float .f32 b)=pure (.float .f32 (jr5 b)):=rfl
theorem jqS (b:Nat) (h:b<4294967296):jr5 b=if b<2147483648 then b+2147483648 else b - 2147483648:=by
 unfold jr5;have hd:(b ^^^ 2147483648) / 2 ^ 31=b / 2 ^ 31 ^^^ 2147483648 / 2 ^ 31:=Nat.xor_div_two_pow;have hm:(b ^^^ 2147483648) % 2 ^ 31=b % 2 ^ 31 ^^^ 2147483648 % 2 ^ 31:=Nat.xor_mod_two_pow;have e1:(2147483648:Nat) / 2 ^ 31=1:=by decide
 have e2:(2147483648:Nat) % 2 ^ 31=0:=by decide
 rw [e1] at hd;rw [e2,Nat.xor_zero] at hm;simp only [Nat.reducePow] at hd hm;have hq:b / 2147483648=0∨b / 2147483648=1:=by omega
 rcases hq with hq | hq
 ·rw [hq] at hd;have:(0 ^^^ 1:Nat)=1:=by decide
  rw [this] at hd;rw [if_pos (by omega)];omega
 ·rw [hq] at hd;have:(1 ^^^ 1:Nat)=0:=by decide
  rw [this] at hd;rw [if_neg (by omega)];omega
theorem negF_lt (b:Nat) (h:b<4294967296):jr5 b<4294967296:=by
 rw [jqS b h];split <;> omega
theorem absF_lt (b:Nat):jqR b<4294967296:=by
 have:=Nat.mod_lt b (show 0<2147483648 by decide);unfold jqR;omega
theorem reluF_lt (b:Nat) (h:b<4294967296):je8 b<4294967296:=by
 unfold je8;split
 ·exact h
 ·split
  ·exact h
  ·omega
def unFl (k:Nat) (b:Nat):Int×Int :=
 match k with
 | 1=>(tob (jr5 b),0)
 | 2=>(tob (jqR b),0)
 | 4=>(tob (je8 b),0)
 | _=>(0,1)
def absI (t x:Int):Int:=if x<0 then wrapT t (wrap64 (-x)) else x
def unIn (k:Nat) (t x:Int):Int×Int :=
 match k with
 | 1=>(wrapT t (wrap64 (-x)),0)
 | 2=>(absI t x,0)
 | _=>(0,1)
def unBo (k:Nat) (x:Int):Int×Int :=
 match k with
 | 3=>(1 - x,0)
 | _=>(0,1)
def un (k:Nat) (t x:Int):Int×Int :=
 if chk t x=true then (if k=0 then (x,0) else if t=1 then unFl k (fb x) else if t=9 then unBo k x else unIn k t x) else (0,1)
end Go.Proofs.YteigfipgmghgmaaGreatDoor.Nu
namespace Go.Proofs.YteigfipgmghgmaaGreatDoor.Nu
open Go.RowKit
def joS (op:BinOp) (k:FloatKind) (x y:Nat) (w:World):Nat :=
 match floatBits op k x y with
 | some r=>r
 | none=>(Question.nanBits k x y).cut (w.tape w.drawn (.nanBits k x y))
def fdr (op:BinOp) (k:FloatKind) (x y:Nat):Nat :=
 match floatBits op k x y with
 | some _=>0
 | none=>1
theorem jeN {P:Program} (w:World) (op:BinOp) (t:TypeId) (k:FloatKind) (x y:Nat) (ho:op=.add∨op=.sub∨op=.mul∨op=.quo) :
    (binOp op t (.float k x) (.float k y)).run P w=.ok (.float k (joS op k x y w)) (w.drewN (fdr op k x y)):=by
     cases h:floatBits op k x y with
     | some r=>rw [run_float_arith w op t k x y r h];simp only [joS,fdr,h];rfl
     | none =>
      simp only [joS,fdr,h];unfold floatBits at h
      rcases ho with rfl | rfl | rfl | rfl <;> simp only at h <;> simp [binOp,Op.floatArith,h,Question.forced] <;> rfl
section
variable {P : Program} (w : World) (t : TypeId) (k : FloatKind) (x y : Nat)
theorem jgN:(binOp .add t (.float k x) (.float k y)).run P w=.ok (.float k (joS .add k x y w)) (w.drewN (fdr .add k x y)):=jeN w .add t k x y (by decide)
theorem jgO:(binOp .sub t (.float k x) (.float k y)).run P w=.ok (.float k (joS .sub k x y w)) (w.drewN (fdr .sub k x y)):=jeN w .sub t k x y (by decide)
theorem jgP:(binOp .mul t (.float k x) (.float k y)).run P w=.ok (.float k (joS .mul k x y w)) (w.drewN (fdr .mul k x y)):=jeN w .mul t k x y (by decide)
theorem jgQ:(binOp .quo t (.float k x) (.float k y)).run P w=.ok (.float k (joS .quo k x y w)) (w.drewN (fdr .quo k x y)):=jeN w .quo t k x y (by decide)
end
theorem jlV (op:BinOp) (x y:Nat) (w:World):joS op .f32 x y w<4294967296:=by
 unfold joS
 split
 ·rename_i r h;have:=floatBits_wf h;simpa [Lit.wf] using this
 ·exact jhP x y _
def cq (s k:FloatKind) (b:Nat):Question:=if (s.decode b).isNaN then .nanConv k b else .floatToFloat b
def jqT (s k:FloatKind) (b:Nat) (w:World):Nat :=
 match floatToFloatBits s b k with
 | some r=>r
 | none=>(cq s k b).cut (w.tape w.drawn (cq s k b))
def cdr (s k:FloatKind) (b:Nat):Nat :=
 match floatToFloatBits s b k with
 | some _=>0
 | none=>1
theorem jjG {P:Program} (w:World) (src dst:TypeId) (s k:FloatKind) (b:Nat) (hs:(P.underlying src).isSome=true) (hd:P.underlying dst=some (.float k)) :
    (convert src dst (.float s b)).run P w=.ok (.float k (jqT s k b w)) (w.drewN (cdr s k b)):=by
     cases h:floatToFloatBits s b k with
     | some r=>rw [run_convert_float_float w src dst s k b r hs hd h];simp only [jqT,cdr,h];rfl
     | none =>
      simp only [jqT,cdr,h];obtain ⟨u,hs'⟩:=Option.isSome_iff_exists.1 hs;unfold floatToFloatBits at h
      split at h
      ·cases h
      ·rename_i ne
       split at h
       ·rename_i a c he
        cases u <;> simp [convert,run_underlying hs',run_underlying hd,Conv.floatToFloat,ne,he,cq,Ieee.Datum.isNaN,Question.forced] <;> rfl
       ·cases h
       ·rename_i sg m e he
        split at h
        ·rename_i ho
         cases u <;> simp [convert,run_underlying hs',run_underlying hd,Conv.floatToFloat,ne,he,ho,cq,Ieee.Datum.isNaN,Question.forced] <;> rfl
        ·cases h
theorem je9 (b:Nat) (w:World):jqT .f64 .f32 b w<4294967296:=by
 unfold jqT
 split
 ·rename_i r h;unfold floatToFloatBits at h;rw [if_neg (by decide)] at h
  split at h
  ·cases h
  ·cases h;have:=encode_wf .f32 (.infinity ‹_›);simpa [Lit.wf] using this
  ·split at h
   ·cases h
   ·cases h;rename_i a b c _ _;have:=encode_wf .f32 (.number a b c);simpa [Lit.wf] using this
 ·unfold cq
  split
  ·exact jhP b b _
  ·show _ % 2 ^ 32<_;exact Nat.mod_lt _ (by decide)
def ival (s:FloatKind) (k:IntKind) (b:Nat) (w:World):Int :=
 match floatToIntVal s b k with
 | some n=>n
 | none=>k.wrap ((Question.floatToInt s b k).cut (w.tape w.drawn (.floatToInt s b k)))
def idr (s:FloatKind) (k:IntKind) (b:Nat):Nat :=
 match floatToIntVal s b k with
 | some _=>0
 | none=>1
theorem joT {P:Program} (w:World) (src dst:TypeId) (s:FloatKind) (k:IntKind) (b:Nat) (hs:(P.underlying src).isSome=true) (hd:P.underlying dst=some (.int k)) :
    (convert src dst (.float s b)).run P w=.ok (.int k (ival s k b w)) (w.drewN (idr s k b)):=by
     cases h:floatToIntVal s b k with
     | some r=>rw [run_convert_float_int w src dst s k b r hs hd h];simp only [ival,idr,h];rfl
     | none =>
      simp only [ival,idr,h];obtain ⟨u,hs'⟩:=Option.isSome_iff_exists.1 hs;unfold floatToIntVal at h
      split at h
      ·rename_i m he
       split at h
       ·cases h
       ·rename_i hb
        cases u <;> simp [convert,run_underlying hs',run_underlying hd,Conv.floatToInt,he,hb,Question.forced] <;> rfl
      ·rename_i he
       cases u <;> simp [convert,run_underlying hs',run_underlying hd,Conv.floatToInt,he,Question.forced] <;> rfl
end Go.Proofs.YteigfipgmghgmaaGreatDoor.Nu
namespace Go.Proofs.YteigfipgmghgmaaGreatDoor.Nu
open Go.RowKit
def rdm (neg:Bool) (rung:Nat):Ieee.Datum :=
 if rung<8388608 then .number neg rung (-149)
 else if rung<2139095040 then .number neg (8388608+rung % 8388608) (-149+(rung / 8388608 - 1:Nat))
 else if rung=2139095040 then .infinity neg
 else .nan neg (rung - 2139095040)
theorem jqU (b:Nat) (h:b<4294967296):FloatKind.f32.format.read b=rdm (decide (2147483648≤b)) (b % 2147483648):=by
 have e1:FloatKind.f32.format.signWeight=2147483648:=rfl;have e2:FloatKind.f32.format.binade=8388608:=rfl;have e3:FloatKind.f32.format.infRung=2139095040:=rfl;have e4:FloatKind.f32.format.leastPlace = -149:=rfl
 have e5:(b / 2147483648 % 2==1)=decide (2147483648≤b):=by
  rw [Bool.eq_iff_iff];simp only [beq_iff_eq,decide_eq_true_eq];omega
 unfold Ieee.Format.read rdm;simp only [e1,e2,e3,e4,e5]
end Go.Proofs.YteigfipgmghgmaaGreatDoor.Nu
namespace Go.Proofs.YteigfipgmghgmaaGreatDoor.Nu
open Go.RowKit
theorem ints_of (t x:Int) (h:chk t x=true) (h1:¬ t=1) (h9:¬ t=9):t=6∨t=7:=by
 unfold chk at h;rw [if_neg h1] at h
 by_cases h6:t=6
 ·exact .inl h6
 ·by_cases h7:t=7
  ·exact .inr h7
  ·rw [if_neg h6,if_neg h7,if_neg h9] at h;cases h
theorem jfa {a b:Int} (h:a<b):compare a b=.lt:=by simp [compare,compareOfLessAndEq,h]
theorem jfb {a b:Int} (h:b<a):compare a b=.gt:=by
 have h1:¬ a<b:=by omega
 have h2:¬ a=b:=by omega
 simp [compare,compareOfLessAndEq,h1,h2]
theorem jhQ {a b:Int} (h:a=b):compare a b=.eq:=by simp [compare,compareOfLessAndEq,h]
end Go.Proofs.YteigfipgmghgmaaGreatDoor.Nu
namespace Go.Proofs.YteigfipgmghgmaaGreatDoor.Nu
open Go.RowKit
def val (r:Nat):Nat:=if r<8388608 then r else (8388608+r % 8388608)*2 ^ (r / 8388608 - 1)
theorem jsm (r:Nat) (h:8388608≤r):2 ^ (22+r / 8388608)≤val r:=by
 unfold val;rw [if_neg (by omega)];have e:22+r / 8388608=23+(r / 8388608 - 1):=by omega
 rw [e,Nat.pow_add];exact Nat.mul_le_mul_right _ (by omega)
theorem jsn (r:Nat):val r<2 ^ (23+r / 8388608):=by
 unfold val
 by_cases h:r<8388608
 ·rw [if_pos h,show r / 8388608=0 from by omega];omega
 ·rw [if_neg h];have e:23+r / 8388608=24+(r / 8388608 - 1):=by omega
  rw [e,Nat.pow_add];exact Nat.mul_lt_mul_of_pos_right (by have:=Nat.mod_lt r (show 0<8388608 by decide);omega) (Nat.two_pow_pos _)
theorem jqd (r s:Nat) (h:r<s):val r<val s:=by
 by_cases he:r / 8388608=s / 8388608
 ·unfold val
  by_cases h1:s<8388608
  ·rw [if_pos (by omega),if_pos h1];exact h
  ·rw [if_neg (by omega),if_neg h1,he];exact Nat.mul_lt_mul_of_pos_right (by omega) (Nat.two_pow_pos _)
 ·have hlt:r / 8388608<s / 8388608:=by omega
  have h1:=jsn r;have h2:=jsm s (by omega);have h3:2 ^ (23+r / 8388608)≤2 ^ (22+s / 8388608):=Nat.pow_le_pow_right (by decide) (by omega);omega
theorem jqV (r s:Nat) (h:val r=val s):r=s:=by
 rcases Nat.lt_trichotomy r s with h1 | h1 | h1
 ·have:=jqd r s h1;omega
 ·exact h1
 ·have:=jqd s r h1;omega
theorem jqW (s:Bool) (r:Nat) (h:r<2139095040):∃ (m:Nat) (d:Nat),rdm s r=.number s m (-149+(d:Int))∧val r=m*2 ^ d:=by
 unfold rdm val
 by_cases h1:r<8388608
 ·rw [if_pos h1,if_pos h1];exact ⟨r,0,by simp,by simp⟩
 ·rw [if_neg h1,if_neg h1,if_pos h];exact ⟨_,r / 8388608 - 1,rfl,rfl⟩
end Go.Proofs.YteigfipgmghgmaaGreatDoor.Nu
namespace Go.Proofs.YteigfipgmghgmaaGreatDoor.Nu
open Go.RowKit
theorem jjH (s:Bool) (n d:Nat):Ieee.Toward.zero.cut s n d=n / 2 ^ d:=by
 unfold Ieee.Toward.cut;simp only [Bool.toNat_false,Nat.add_zero,Nat.shiftLeft_eq,Nat.one_mul]
 by_cases h:d≤n.log2+2
 ·rw [Nat.min_eq_left h]
 ·rw [Nat.min_eq_right (by omega)];have h1:n<2 ^ (n.log2+2):=Nat.lt_of_lt_of_le Nat.lt_log2_self (Nat.pow_le_pow_right (by decide) (by omega));have h2:n<2 ^ d:=Nat.lt_of_lt_of_le h1 (Nat.pow_le_pow_right (by decide) (by omega));rw [Nat.div_eq_of_lt h1,Nat.div_eq_of_lt h2]
def jbN (m:Nat) (i:Int):Nat:=m*2 ^ (i+250).toNat
theorem jqX (s:Bool) (m:Nat) (i:Int) (hi : -250≤i):(Ieee.Datum.number s m i).toInt .zero=some (if s then -((jbN m i / 2 ^ 250:Nat):Int) else ((jbN m i / 2 ^ 250:Nat):Int)):=by
 have e:jbN m i / 2 ^ 250=(m <<< i.toNat) / 2 ^ (-i).toNat:=by
  unfold jbN;rw [Nat.shiftLeft_eq]
  by_cases h:0≤i
  ·have e1:(i+250).toNat=i.toNat+250:=by omega
   have e2:(-i).toNat=0:=by omega
   rw [e1,e2,Nat.pow_add,← Nat.mul_assoc,Nat.mul_div_cancel _ (Nat.two_pow_pos _),Nat.pow_zero,Nat.div_one]
  ·have e1:i.toNat=0:=by omega
   have e2:(250:Nat)=(-i).toNat+(i+250).toNat:=by omega
   rw [e1,Nat.pow_zero,Nat.mul_one]
   conv=>lhs;rw [show (2:Nat) ^ 250=2 ^ ((-i).toNat+(i+250).toNat) from congrArg _ e2]
   rw [Nat.pow_add,Nat.mul_div_mul_right _ _ (Nat.two_pow_pos _)]
 simp only [Ieee.Datum.toInt,Ieee.Datum.integral,jjH,Ieee.signed,Nat.shiftLeft_zero,e]
theorem joU (m n:Nat) (i j b:Int) (hi : -250≤i) (hj : -250≤j) (hb:b=min i j) :
    ∃ k:Nat,jbN m i=(m <<< (i - b).toNat)*2 ^ k∧jbN n j=(n <<< (j - b).toNat)*2 ^ k:=by
     refine ⟨(b+250).toNat,?_,?_⟩
     ·unfold jbN;rw [Nat.shiftLeft_eq,Nat.mul_assoc,← Nat.pow_add];congr 2;omega
     ·unfold jbN;rw [Nat.shiftLeft_eq,Nat.mul_assoc,← Nat.pow_add];congr 2;omega
theorem jqY (s t:Bool) (m n:Nat) (i j:Int) (hi : -250≤i) (hj : -250≤j):(Ieee.Datum.number s m i).order (.number t n j)=some (compare (if s then -(jbN m i:Int) else (jbN m i:Int)) (if t then -(jbN n j:Int) else (jbN n j:Int))):=by
 simp only [Ieee.Datum.order,Option.some.injEq,Ieee.signed];obtain ⟨k,h1,h2⟩:=joU m n i j _ hi hj rfl;rw [h1,h2];generalize m <<< (i - min i j).toNat=a;generalize n <<< (j - min i j).toNat=b;have pk:(0:Int)<2 ^ k:=by have:=Nat.two_pow_pos k;exact_mod_cast this
 have key:∀ p q:Int,compare p q=compare (p*2 ^ k) (q*2 ^ k):=by
  intro p q
  rcases Int.lt_trichotomy p q with h | h | h
  ·rw [jfa h,jfa (Int.mul_lt_mul_of_pos_right h pk)]
  ·subst h;rw [jhQ rfl,jhQ rfl]
  ·rw [jfb h,jfb (Int.mul_lt_mul_of_pos_right h pk)]
 rw [key]
 congr 1
 ·cases s <;> simp [Int.neg_mul]
 ·cases t <;> simp [Int.neg_mul]
theorem jlW (s:Bool) (n:Nat):Ieee.Toward.even.cut s n 0=n:=by
 unfold Ieee.Toward.cut;have e:min 0 (n.log2+2)=0:=by omega
 rw [e];have e2:(1:Nat) <<< 0=1:=rfl;rw [e2];simp only [Nat.mod_one,Nat.div_one]
 rfl
theorem jqZ (m:Nat) (h:m≠0):2 ^ m.log2≤m∧m<2 ^ (m.log2+1):=⟨Nat.log2_self_le h,Nat.lt_log2_self⟩
theorem jkp (s:Bool) (r:Nat) (h:r<9223372036854775808):Ieee.double.word s r % 9223372036854775808=r∧(Ieee.double.word s r / 9223372036854775808 % 2==1)=s:=by
 have e5:Ieee.double.signWeight=9223372036854775808:=rfl;unfold Ieee.Format.word;rw [e5]
 cases s with
 | false =>
  rw [if_neg (by decide)];exact ⟨Nat.mod_eq_of_lt h,by rw [Nat.div_eq_of_lt h];rfl⟩
 | true =>
  rw [if_pos rfl];have:(9223372036854775808+r) / 9223372036854775808=1:=by omega
  exact ⟨by omega,by rw [this];rfl⟩
theorem jlX (s:Bool) (E K:Nat) (k1:4503599627370496≤K) (k2:K<9007199254740992) (hE:E≤1974):Ieee.double.read (Ieee.double.word s (E*4503599627370496+K))=.number s K (-1074+(E:Int)):=by
 have e1:Ieee.double.leastPlace = -1074:=rfl;have e2:Ieee.double.binade=4503599627370496:=rfl;have e3:Ieee.double.infRung=9218868437227405312:=rfl;have e5:Ieee.double.signWeight=9223372036854775808:=rfl;obtain ⟨w1,w2⟩:=jkp s (E*4503599627370496+K) (by omega);unfold Ieee.Format.read;simp only [e1,e2,e3,e5];rw [w1,w2,if_neg (by omega),if_pos (by omega)];have q1:4503599627370496+(E*4503599627370496+K) % 4503599627370496=K:=by omega
 have q2:(E*4503599627370496+K) / 4503599627370496 - 1=E:=by omega
 rw [q1,q2]
theorem jf6 (E K:Nat) (hE:E≤1974) (k2:K<9007199254740992):E*4503599627370496+K<9218868437227405312:=by omega
theorem jlY (E K:Nat) (hE:E≤1974) (k2:K<9007199254740992):min (E*4503599627370496+K) 9218868437227405312=E*4503599627370496+K :=
 Nat.min_eq_left (Nat.le_of_lt (jf6 E K hE k2))
theorem jq0 (s:Bool) (m:Nat) (p:Int) (h0:m≠0) (hm:m<2 ^ 53) (hp : -1000≤p) (hq:p≤900) :
    ∃ (r:Nat),Ieee.double.nearest s m p=Ieee.double.word s r∧r<9218868437227405312∧Ieee.double.read (Ieee.double.word s r)=.number s (m*2 ^ (52 - m.log2)) (p - (52 - m.log2:Nat)):=by
     obtain ⟨l1,l2⟩:=jqZ m h0
     have hl:m.log2≤52:=by
      have:=(Nat.log2_lt h0).2 hm;omega
     have e1:Ieee.double.leastPlace = -1074:=rfl;have e2:Ieee.double.binade=4503599627370496:=rfl;have e3:Ieee.double.infRung=9218868437227405312:=rfl;have e4:Ieee.double.fractionBits=52:=rfl
     have k1:4503599627370496≤m*2 ^ (52 - m.log2):=by
      have:2 ^ m.log2*2 ^ (52 - m.log2)≤m*2 ^ (52 - m.log2):=Nat.mul_le_mul_right _ l1;rw [← Nat.pow_add,show m.log2+(52 - m.log2)=52 from by omega] at this;simpa using this
     have k2:m*2 ^ (52 - m.log2)<9007199254740992:=by
      have:m*2 ^ (52 - m.log2)<2 ^ (m.log2+1)*2 ^ (52 - m.log2):=Nat.mul_lt_mul_of_pos_right l2 (Nat.two_pow_pos _);rw [← Nat.pow_add,show m.log2+1+(52 - m.log2)=53 from by omega] at this;simpa using this
     have hlast:max (p+m.log2 - 52) (-1074)=p - (52 - m.log2:Nat):=by omega
     have hnear:Ieee.double.nearest s m p=Ieee.double.word s (min ((p - (52 - m.log2:Nat) - -1074).toNat*4503599627370496+m*2 ^ (52 - m.log2)) 9218868437227405312):=by
      unfold Ieee.Format.nearest;rw [if_neg h0];simp only [e1,e2,e3,e4];have hc:max (p+(m.log2:Int) - ((52:Nat):Int)) (-1074)=p - (52 - m.log2:Nat):=hlast;rw [hc];have d1:(p - (p - ((52 - m.log2:Nat):Int))).toNat=52 - m.log2:=by omega
      have d2:(p - ((52 - m.log2:Nat):Int) - p).toNat=0:=by omega
      rw [d1,d2];rw [jlW,Nat.shiftLeft_eq]
     generalize hK:m*2 ^ (52 - m.log2)=K at *;generalize hE:(p - (52 - m.log2:Nat) - -1074).toNat=E at *;have hEb:E≤1974:=by omega
     have hEp:p - (52 - m.log2:Nat) = -1074+(E:Int):=by omega
     have hmin:min (E*4503599627370496+K) 9218868437227405312=E*4503599627370496+K:=jlY E K hEb k2;rw [hmin] at hnear;refine ⟨E*4503599627370496+K,hnear,jf6 E K hEb k2,?_⟩;rw [hEp];exact jlX s E K k1 k2 hEb
end Go.Proofs.YteigfipgmghgmaaGreatDoor.Nu
namespace Go.Proofs.YteigfipgmghgmaaGreatDoor.Nu
open Go.RowKit
def cv (b:Nat):Nat:=FloatKind.f64.encode (FloatKind.f32.decode b)
theorem jkq (b m d:Nat) (e1:rdm (decide (2147483648≤b)) (b % 2147483648)=.number (decide (2147483648≤b)) m (-149+(d:Int))):m<16777216∧d≤254:=by
 unfold rdm at e1
 split at e1
 ·injection e1 with _ h2 h3;omega
 ·split at e1
  ·injection e1 with _ h2 h3;omega
  ·split at e1 <;> cases e1
theorem jlZ (b:Nat) (hb:b<4294967296) (h:b % 2147483648<2139095040) :
    ∃ (m:Nat) (i:Int),FloatKind.f64.format.read (cv b)=.number (decide (2147483648≤b)) m i∧(m=0∧b % 2147483648=0 ∨ -250≤i∧jbN m i=val (b % 2147483648)*2 ^ 101)∧floatToFloatBits .f32 b .f64=some (cv b):=by
     have hd:FloatKind.f32.decode b=rdm (decide (2147483648≤b)) (b % 2147483648):=jqU b hb;obtain ⟨m,d,e1,v1⟩:=jqW (decide (2147483648≤b)) (b % 2147483648) h
     by_cases h0:m=0
     ·have hv:val (b % 2147483648)=val 0:=by rw [v1,h0,Nat.zero_mul];rfl
      have hr:=jqV _ _ hv;subst h0
      have ec:cv b=Ieee.double.word (decide (2147483648≤b)) 0:=by
       unfold cv;rw [hd,e1];rfl
      have er:FloatKind.f64.format.read (cv b)=.number (decide (2147483648≤b)) 0 (-1074):=by
       rw [ec];cases decide (2147483648≤b) <;> decide +kernel
      refine ⟨0,-1074,er,.inl ⟨rfl,hr⟩,?_⟩;unfold floatToFloatBits;rw [if_neg (by decide),hd,e1];have ew:FloatKind.f64.encode (.number (decide (2147483648≤b)) 0 (-149+(d:Int)))=cv b:=by unfold cv;rw [hd,e1]
      simp only [ew];have er':FloatKind.f64.decode (cv b)=.number (decide (2147483648≤b)) 0 (-1074):=er;rw [er'];rfl
     ·obtain ⟨hm,hdd⟩:=jkq b m d e1;obtain ⟨r,w1,w2,w3⟩:=jq0 (decide (2147483648≤b)) m (-149+(d:Int)) h0 (by omega) (by omega) (by omega)
      have ec:cv b=Ieee.double.word (decide (2147483648≤b)) r:=by
       unfold cv;rw [hd,e1];exact w1
      have er:FloatKind.f64.format.read (cv b)=.number (decide (2147483648≤b)) (m*2 ^ (52 - m.log2)) (-149+(d:Int) - (52 - m.log2:Nat)):=by
       rw [ec];exact w3
      refine ⟨_,_,er,.inr ⟨by omega,?_⟩,?_⟩
      ·rw [v1];unfold jbN;rw [Nat.mul_assoc,Nat.mul_assoc,← Nat.pow_add,← Nat.pow_add];have:52 - m.log2+(-149+(d:Int) - (52 - m.log2:Nat)+250).toNat=d+101:=by omega
       rw [this]
      ·unfold floatToFloatBits;rw [if_neg (by decide),hd,e1];have ew:FloatKind.f64.encode (.number (decide (2147483648≤b)) m (-149+(d:Int)))=cv b:=by unfold cv;rw [hd,e1]
       simp only [ew];have er':FloatKind.f64.decode (cv b)=.number (decide (2147483648≤b)) (m*2 ^ (52 - m.log2)) (-149+(d:Int) - (52 - m.log2:Nat)):=er;rw [er'];rfl
end Go.Proofs.YteigfipgmghgmaaGreatDoor.Nu
namespace Go.Proofs.YteigfipgmghgmaaGreatDoor.Nu
open Go.RowKit
def sz (b:Nat):Nat:=val (b % 2147483648)*2 ^ 101
def un1:Nat:=2 ^ 250
theorem jgR:0<un1:=Nat.two_pow_pos _
def sgn (b:Nat):Bool:=decide (2147483648≤b)
theorem jq1 (s t:Bool) (c:Nat) (i j:Int) (hc:c≠0):(Ieee.Datum.number s 0 i).order (.number t c j)=some (if t then .gt else .lt):=by
 have e0:∀ n:Nat,(0:Nat) <<< n=0:=fun n=>Nat.zero_shiftLeft n;simp only [Ieee.Datum.order,Ieee.signed,e0];generalize (j - min i j).toNat=n;have p:0<c <<< n:=by rw [Nat.shiftLeft_eq];exact Nat.mul_pos (by omega) (Nat.two_pow_pos _)
 generalize c <<< n=a at *
 cases s <;> cases t <;> simp only [if_true,Bool.false_eq_true,if_false] <;> first | exact congrArg some (jfa (by omega)) | exact congrArg some (jfb (by omega))
theorem jjI (b:Nat) (hb:b<4294967296) (h:b % 2147483648<2139095040) (t:Bool) (j:Int) (K:Nat) (hj : -250≤j) (hK:jbN 4503599627370496 j=K*un1) (hK0:0<K) :
    (FloatKind.f64.format.read (cv b)).order (.number t 4503599627370496 j)=some (compare (if sgn b then -(sz b:Int) else (sz b:Int)) (if t then -((K*un1:Nat):Int) else ((K*un1:Nat):Int))):=by
     obtain ⟨m,i,e,hc,_⟩:=jlZ b hb h;rw [e];have pk:0<K*un1:=Nat.mul_pos hK0 jgR
     rcases hc with ⟨h0,hr⟩ | ⟨hi,hs⟩
     ·have hz:sz b=0:=by unfold sz;rw [hr];rfl
      subst h0;rw [jq1 _ _ _ _ _ (by decide),hz];generalize K*un1=a at *
      cases sgn b <;> cases t <;> simp only [if_true,Bool.false_eq_true,if_false] <;> first | exact congrArg some (jfa (by omega)).symm | exact congrArg some (jfb (by omega)).symm
     ·rw [jqY _ _ _ _ _ _ hi hj,hK,hs];rfl
theorem jso (b:Nat) (hb:b<4294967296) (h:b % 2147483648<2139095040) :
    (FloatKind.f64.format.read (cv b)).toInt .zero=some (if sgn b then -((sz b / un1:Nat):Int) else ((sz b / un1:Nat):Int)):=by
     obtain ⟨m,i,e,hc,_⟩:=jlZ b hb h;rw [e]
     rcases hc with ⟨h0,hr⟩ | ⟨hi,hs⟩
     ·have hz:sz b=0:=by unfold sz;rw [hr];rfl
      subst h0;rw [hz,Nat.zero_div];have e0:∀ n:Nat,(0:Nat) <<< n=0:=fun n=>Nat.zero_shiftLeft n;simp only [Ieee.Datum.toInt,Ieee.Datum.integral,jjH,Ieee.signed,e0,Nat.zero_div]
      cases sgn b <;> cases decide (2147483648≤b) <;> rfl
     ·rw [jqX _ _ _ hi,hs];rfl
theorem jq2 (k:Nat):4503599627370496*2 ^ (11+k)=9223372036854775808*2 ^ k:=by
 rw [Nat.pow_add,← Nat.mul_assoc]
theorem joV (i:Int) (k:Nat) (h:i.toNat=11+k):4503599627370496*2 ^ i.toNat=9223372036854775808*2 ^ k:=by
 rw [h];exact jq2 k
theorem k63:jbN 4503599627370496 11=9223372036854775808*un1:=joV (11+250) 250 rfl
theorem k31:jbN 4503599627370496 (-21)=2147483648*un1:=by
 unfold jbN un1;have e:((-21:Int)+250).toNat=229:=rfl;have e2:(250:Nat)=21+229:=rfl;rw [e,e2,Nat.pow_add,← Nat.mul_assoc]
theorem c63n:FloatKind.f64.format.read 14114281232179134464=.number true 4503599627370496 11:=by decide +kernel
theorem c63:FloatKind.f64.format.read 4890909195324358656=.number false 4503599627370496 11:=by decide +kernel
theorem c31n:FloatKind.f64.format.read 13970166044103278592=.number true 4503599627370496 (-21):=by decide +kernel
theorem c31:FloatKind.f64.format.read 4746794007248502784=.number false 4503599627370496 (-21):=by decide +kernel
def jet (b c:Nat):Bool:=FloatKind.f64.format.order (cv b) c==some .lt
def jc9 (b c:Nat):Bool:=FloatKind.f64.format.order (cv b) c==some .gt||FloatKind.f64.format.order (cv b) c==some .eq
theorem jjJ (b c K:Nat) (j:Int) (hb:b<4294967296) (h:b % 2147483648<2139095040) (hc:FloatKind.f64.format.read c=.number true 4503599627370496 j) (hj : -250≤j) (hK:jbN 4503599627370496 j=K*un1) (hK0:0<K) :
    jet b c=(sgn b&&decide (K*un1<sz b)):=by
     unfold jet Ieee.Format.order;rw [hc,jjI b hb h true j K hj hK hK0];generalize K*un1=a;generalize sz b=z
     cases sgn b
     ·simp only [Bool.false_eq_true,if_false,if_true,Bool.false_and]
      by_cases h0:(-(a:Int))<z
      ·rw [jfb h0];rfl
      ·rw [jhQ (by omega)];rfl
     ·simp only [if_true,Bool.true_and]
      by_cases h0:a<z
      ·rw [jfa (by omega),decide_eq_true h0];rfl
      ·rw [decide_eq_false h0]
       by_cases h1:z=a
       ·rw [jhQ (by omega)];rfl
       ·rw [jfb (by omega)];rfl
theorem jjK (b c K:Nat) (j:Int) (hb:b<4294967296) (h:b % 2147483648<2139095040) (hc:FloatKind.f64.format.read c=.number false 4503599627370496 j) (hj : -250≤j) (hK:jbN 4503599627370496 j=K*un1) (hK0:0<K) :
    jc9 b c=(!sgn b&&decide (K*un1≤sz b)):=by
     have pa:0<K*un1:=Nat.mul_pos hK0 jgR;unfold jc9 Ieee.Format.order;rw [hc,jjI b hb h false j K hj hK hK0];generalize K*un1=a at *;generalize sz b=z
     cases sgn b
     ·simp only [Bool.false_eq_true,if_false,Bool.not_false,Bool.true_and]
      by_cases h0:a≤z
      ·rw [decide_eq_true h0]
       by_cases h1:z=a
       ·rw [jhQ (by omega)];rfl
       ·rw [jfb (by omega)];rfl
      ·rw [decide_eq_false h0,jfa (by omega)];rfl
     ·simp only [Bool.false_eq_true,if_true,if_false,Bool.not_true,Bool.false_and];rw [jfa (by omega)];rfl
theorem int_cases (b:Nat) (hb:b<4294967296) (hn:b % 2147483648≤2139095040) :
    (jet b 13970166044103278592=true∧jc9 b 4746794007248502784=false∧(jet b 14114281232179134464=true∨jet b 14114281232179134464=false∧jc9 b 4890909195324358656=false∧∃ n,floatToIntVal .f64 (cv b) .i64=some n)) ∨
    (jet b 13970166044103278592=false∧jc9 b 4746794007248502784=true∧jet b 14114281232179134464=false∧(jc9 b 4890909195324358656=true∨jc9 b 4890909195324358656=false∧∃ n,floatToIntVal .f64 (cv b) .i64=some n∧2147483648≤n)) ∨
    (jet b 13970166044103278592=false∧jc9 b 4746794007248502784=false∧jet b 14114281232179134464=false∧jc9 b 4890909195324358656=false∧∃ n,floatToIntVal .f64 (cv b) .i64=some n ∧ -2147483648≤n∧n≤2147483647):=by
     by_cases hf:b % 2147483648=2139095040
     ·have:b=2139095040∨b=4286578688:=by omega
      rcases this with rfl | rfl
      ·right;left
       exact ⟨by decide +kernel,by decide +kernel,by decide +kernel,.inl (by decide +kernel)⟩
      ·left
       exact ⟨by decide +kernel,by decide +kernel,.inl (by decide +kernel)⟩
     ·have h:b % 2147483648<2139095040:=by omega
      rw [jjJ b _ 2147483648 (-21) hb h c31n (by decide) k31 (by decide),jjK b _ 2147483648 (-21) hb h c31 (by decide) k31 (by decide),
       jjJ b _ 9223372036854775808 11 hb h c63n (by decide) k63 (by decide),jjK b _ 9223372036854775808 11 hb h c63 (by decide) k63 (by decide)]
      have hi:=jso b hb h;have lt_iff:∀ K:Nat,K*un1≤sz b↔K≤sz b / un1:=fun K=>(Nat.le_div_iff_mul_le jgR).symm
      have val_of:∀ n:Int,(FloatKind.f64.format.read (cv b)).toInt .zero=some n → -9223372036854775808≤n→n≤9223372036854775807→floatToIntVal .f64 (cv b) .i64=some n:=by
       intro n h1 h2 h3;unfold floatToIntVal;have h1':(FloatKind.f64.decode (cv b)).toInt .zero=some n:=h1;rw [h1']
       have:IntKind.i64.min≤n∧n≤IntKind.i64.max:=by
        simpa [IntKind.min,IntKind.max,IntKind.signed,IntKind.bits] using ⟨h2,h3⟩
       simp only [this,and_self,if_true]
      have l31:=lt_iff 2147483648;have l63:=lt_iff 9223372036854775808;have m31:=lt_iff 2147483649;have m63:=lt_iff 9223372036854775809;have d31:∀ K:Nat,(K+1)*un1=K*un1+un1:=fun K=>Nat.succ_mul K un1;have p1:=jgR;have e31:=d31 2147483648;have e63:=d31 9223372036854775808;have big:2147483648*un1≤9223372036854775808*un1:=Nat.mul_le_mul_right _ (by decide);generalize 2147483648*un1=A at *;generalize 9223372036854775808*un1=B at *;simp only [show (2147483648+1:Nat)=2147483649 from rfl,show (9223372036854775808+1:Nat)=9223372036854775809 from rfl] at e31 e63;rw [e31] at m31;rw [e63] at m63;generalize sz b / un1=q at *;generalize sz b=z at *;generalize un1=u at *;clear d31 lt_iff e31 e63
      cases hs:sgn b
      ·rw [hs] at hi;simp only [Bool.false_eq_true,if_false] at hi
       by_cases h1:A≤z
       ·right;left
        refine ⟨by simp,by simp [h1],by simp,?_⟩
        by_cases h2:B≤z
        ·left;simp [h2]
        ·right
         refine ⟨by simp [h2],(q:Int),val_of _ hi (by omega) (by omega),by omega⟩
       ·right;right
        have h2:¬ B≤z:=by omega
        refine ⟨by simp,by simp [h1],by simp,by simp [h2],(q:Int),val_of _ hi (by omega) (by omega),by omega,by omega⟩
      ·rw [hs] at hi;simp only [if_true] at hi
       by_cases h1:A<z
       ·left
        refine ⟨by simp [h1],by simp,?_⟩
        by_cases h2:B<z
        ·left;simp [h2]
        ·right
         refine ⟨by simp [h2],by simp,-(q:Int),val_of _ hi (by omega) (by omega)⟩
       ·right;right
        have h2:¬ B<z:=by omega
        refine ⟨by simp [h1],by simp,by simp [h2],by simp,-(q:Int),val_of _ hi (by omega) (by omega),by omega,by omega⟩
end Go.Proofs.YteigfipgmghgmaaGreatDoor.Nu
