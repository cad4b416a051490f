/- A part. -/
import Derived.Test.YteigfipgmghgmaaGreatDoorVartAS
import Derived.Test.YteigfipgmghgmaaGreatDoorVartBK
import Derived.Test.YteigfipgmghgmaaGreatDoorVartAQ
import Derived.Test.YteigfipgmghgmaaGreatDoorVartAR
set_option maxHeartbeats 2000000
set_option maxRecDepth 4000
namespace Go.Proofs.YteigfipgmghgmaaGreatDoor.Nu
open Go.RowKit Mo
attribute [local go_sem] jeu jcJ jeK jbg jbh jbq jbB jcf
theorem jfc (x q:Nat) (hx:x<9218868437227405312) (hq:q<9218868437227405312):FloatKind.f64.format.order x q=some (compare (x:Int) (q:Int)):=jpB x q hx hq
theorem jtY (x:Nat) (w:World) (h1:x<9218868437227405312):Calls Tryz.prog 159 #[.float .f64 x] w fun e w'=>e=.returned (.bool false)∧w'=w:=by
 have o1:(FloatKind.f64.format.order x x != some .eq)=false:=by rw [jfc x x h1 h1,jcc rfl];rfl
 go_enter Tryz.func159,Tryz.ntmps159;go_wp2;go_ret;exact ⟨rfl,rfl⟩
theorem abs64 (x:Nat) (h:x<9223372036854775808):bits .andNot .u64 (x:Int) 9223372036854775808=(x:Int):=by
 have e:=u64_andNot_nat x 9223372036854775808 (by omega) (by decide);have e':bits .andNot .u64 (x:Int) 9223372036854775808=((x &&& (2 ^ 63 - 1):Nat):Int):=e;rw [e',Nat.and_two_pow_sub_one_eq_mod,Nat.mod_eq_of_lt h]
theorem low64 (x:Nat) (h:x<9223372036854775808):bits .andNot .u64 (x:Int) 9218868437227405312=((x % 4503599627370496:Nat):Int):=by
 have e:=u64_andNot_nat x 9218868437227405312 (by omega) (by decide);have e':bits .andNot .u64 (x:Int) 9218868437227405312=((x &&& 9227875636482146303:Nat):Int):=e;rw [e']
 congr 1
 have h1:(x &&& 9227875636482146303) / 2 ^ 52=0:=by
  rw [Nat.and_div_two_pow];have hd:∀ q:Fin 2048,q.1 &&& (9227875636482146303 / 2 ^ 52)=0:=by decide +kernel
  exact hd ⟨x / 2 ^ 52,by omega⟩
 have h2:(x &&& 9227875636482146303) % 2 ^ 52=x % 2 ^ 52:=by
  rw [Nat.and_mod_two_pow,show 9227875636482146303 % 2 ^ 52=2 ^ 52 - 1 from rfl,Nat.and_two_pow_sub_one_eq_mod,Nat.mod_mod]
 have h3:=Nat.div_add_mod (x &&& 9227875636482146303) (2 ^ 52);rw [h1,h2] at h3;omega
theorem jtZ (q:Nat) (h:q<2048):bits .and .i64 (q:Int) 2047=(q:Int):=by
 show IntKind.i64.wrap ((BitVec.ofInt 64 (q:Int) &&& BitVec.ofInt 64 (2047:Int)).toNat:Int)=_;have e1:(BitVec.ofInt 64 (q:Int)).toNat=q:=ofInt_u64 q (by omega);have e2:(BitVec.ofInt 64 (2047:Int)).toNat=2 ^ 11 - 1:=by decide
 rw [BitVec.toNat_and,e1,e2,Nat.and_two_pow_sub_one_eq_mod,Nat.mod_eq_of_lt h,jbS];unfold wrap64;omega
theorem or64 (lo F:Nat) (h1:lo<4503599627370496) (h2:F<2048):bits .or .u64 (lo:Int) ((F:Int)*4503599627370496)=((F*4503599627370496+lo:Nat):Int):=by
 have e:=u64_or_nat lo (F*4503599627370496) (by omega) (by omega);rw [show ((F:Int)*4503599627370496)=((F*4503599627370496:Nat):Int) from by omega,e]
 congr 1
 rw [Nat.or_comm,Nat.mul_comm F,show (4503599627370496:Nat)=2 ^ 52 from rfl,Nat.two_pow_add_eq_or_of_lt (by exact h1)]
theorem ju2 (x:Nat) (w:World) (h1:x<9218868437227405312):Calls Tryz.prog 169 #[.float .f64 x] w fun e w'=>e=.returned (.float .f64 x)∧w'=w:=by
 have o1:=abs64 x (by omega);go_enter Tryz.func169,Tryz.ntmps169;go_wp2;go_ret;exact ⟨rfl,rfl⟩
theorem jt0 (x:Nat) (w:World) (h1:x<9218868437227405312):Calls Tryz.prog 160 #[.float .f64 x,.int .i64 0] w fun e w'=>e=.returned (.bool false)∧w'=w:=by
 have o1:(FloatKind.f64.format.order x 9218868437227405311==some .gt)=false:=by
  rw [jfc x _ h1 (by decide)]
  rcases Nat.lt_or_ge x 9218868437227405311 with h | h
  ·rw [jb3 (by omega)];rfl
  ·rw [jcc (by omega)];rfl
 have A:=fun w=>ju2 x w h1;go_enter Tryz.func160,Tryz.ntmps160;go_wp2_with (first | (go_at_call 169;refine (A _).mono ?_;rintro e w' ⟨rfl,rfl⟩) | fail);go_ret;exact ⟨rfl,rfl⟩
theorem jkN (x:Nat) (w:World) (h0:4503599627370496≤x) (h1:x<9218868437227405312):Calls Tryz.prog 172 #[.float .f64 x] w fun e w'=>e=.returned (.tuple #[.float .f64 x,.int .i64 0])∧w'=w:=by
 have o1:(FloatKind.f64.format.order x 4503599627370496==some .lt)=false:=by
  rw [jfc x _ h1 (by decide)]
  rcases Nat.lt_or_ge 4503599627370496 x with h | h
  ·rw [jbM (by omega)];rfl
  ·rw [jcc (by omega)];rfl
 have A:=fun w=>ju2 x w h1;go_enter Tryz.func172,Tryz.ntmps172;go_wp2_with (first | (go_at_call 169;refine (A _).mono ?_;rintro e w' ⟨rfl,rfl⟩) | fail);go_ret2;exact ⟨rfl,rfl⟩
theorem jt1 (x:Nat) (m:Int) (w:World) (h1:4600427019358961664≤x) (h2:x≤4609997168567123968) (m1 : -160≤m) (m2:m≤160):Calls Tryz.prog 163 #[.float .f64 x,.int .i64 m] w fun e w'=>e=.returned (.float .f64 ((x:Int)+m*4503599627370496).toNat)∧w'=w:=by
 have o1:(FloatKind.f64.format.order x 0==some .eq)=false:=by
  rw [jfc x 0 (by omega) (by omega),jbM (by omega)];rfl
 have A:=fun w=>jt0 x w (by omega);have B:=fun w=>jtY x w (by omega);have C:=fun w=>jkN x w (by omega) (by omega);obtain ⟨q,hq⟩ : ∃ q:Nat,q=x / 4503599627370496:=⟨_,rfl⟩
 obtain ⟨lo,hlo⟩ : ∃ lo:Nat,lo=x % 4503599627370496:=⟨_,rfl⟩
 have hxq:x=q*4503599627370496+lo:=by omega
 have lo1:lo<4503599627370496:=by omega
 have a1:=jtZ q (by omega);have ax:wrap64 ((x:Int) / 4503599627370496)=(q:Int):=by unfold wrap64;omega
 have am:wrap64 m=m:=by unfold wrap64;omega
 have b1:=low64 x (by omega);rw [← hlo] at b1;obtain ⟨q1,hq1⟩ : ∃ q1:Int,q1=(q:Int) - 1023:=⟨_,rfl⟩
 have a2:wrap64 ((q:Int) - 1023)=q1:=by unfold wrap64;omega
 obtain ⟨E,hE⟩ : ∃ E:Int,E=m+q1:=⟨_,rfl⟩
 have a3:wrap64 (m+q1)=E:=by unfold wrap64;omega
 have E1 : -200≤E:=by omega
 have E2:E≤200:=by omega
 obtain ⟨R,hR⟩ : ∃ R:Nat,R=((x:Int)+m*4503599627370496).toNat:=⟨_,rfl⟩
 have c1:bits .or .u64 (lo:Int) ((E+1023)*4503599627370496)=(R:Int):=by
  obtain ⟨F,hF⟩ : ∃ F:Nat,(F:Int)=E+1023:=⟨(E+1023).toNat,by omega⟩
  rw [← hF,or64 lo F lo1 (by omega)];omega
 have hRb:R<9218868437227405312:=by omega
 have mu:∀ t w,(binOp .mul t (.float .f64 4607182418800017408) (.float .f64 R)).run Tryz.prog w=.ok (.float .f64 R) w:=fun t w=>run_float_arith w .mul t .f64 _ _ R (jpC R hRb);rw [← hR];clear hq hlo hxq hq1 hE h1 h2 m1 m2 lo1 hR hRb;go_enter Tryz.func163,Tryz.ntmps163;go_wp2_with (first | (go_at_call 160;refine (A _).mono ?_;rintro e w' ⟨rfl,rfl⟩) | (go_at_call 159;refine (B _).mono ?_;rintro e w' ⟨rfl,rfl⟩) | (go_at_call 172;refine (C _).mono ?_;rintro e w' ⟨rfl,rfl⟩) | fail);go_ret;exact ⟨rfl,rfl⟩
theorem jt2 (x:Nat) (m:Int) (w:World) (h1:4600427019358961664≤x) (h2:x≤4609997168567123968) (m1 : -160≤m) (m2:m≤160):Calls Tryz.prog 134 #[.float .f64 x,.int .i64 m] w fun e w'=>e=.returned (.float .f64 ((x:Int)+m*4503599627370496).toNat)∧w'=w:=by
 have A:=fun w=>jt1 x m w h1 h2 m1 m2;go_enter Tryz.func134,Tryz.ntmps134;go_wp2_with (first | (go_at_call 163;refine (A _).mono ?_;rintro e w' ⟨rfl,rfl⟩) | fail);go_ret;exact ⟨rfl,rfl⟩
end Go.Proofs.YteigfipgmghgmaaGreatDoor.Nu
namespace Go.Proofs.YteigfipgmghgmaaGreatDoor.Nu
open Go.RowKit
attribute [local go_sem] jeu jcJ jeK jbg jbh jbq jbB jdY jdZ jd0 jd1 jcf
theorem jpD (s:Bool) (t:Nat):(FloatKind.f64.decode (FloatKind.f64.encode (.nan s (FloatKind.f64.format.quiet t)))).isNaN=true:=by
 have e2:Ieee.double.binade=4503599627370496:=rfl;have e3:Ieee.double.infRung=9218868437227405312:=rfl;have e5:Ieee.double.signWeight=9223372036854775808:=rfl;have eq:Ieee.double.quiet t=t ||| 2 ^ 51:=rfl
 have hq:(t ||| 2 ^ 51) % 4503599627370496≠0:=by
  intro h
  have h1:((t ||| 2 ^ 51) % 2 ^ 52).testBit 51=true:=by
   rw [Nat.testBit_mod_two_pow,Nat.testBit_or,Nat.testBit_two_pow_self];simp
  rw [show (2:Nat) ^ 52=4503599627370496 from rfl,h] at h1;simp at h1
 have hlt:(t ||| 2 ^ 51) % 4503599627370496<4503599627370496:=Nat.mod_lt _ (by decide);show (Ieee.double.read (Ieee.double.word s (Ieee.double.infRung+Ieee.double.quiet t % Ieee.double.binade))).isNaN=true;rw [eq,e2,e3];generalize (t ||| 2 ^ 51) % 4503599627370496=f at *;obtain ⟨w1,w2⟩:=jgU s (9218868437227405312+f) (by omega);unfold Ieee.Format.read;simp only [e2,e3,e5];rw [w1,if_neg (by omega),if_neg (by omega),if_neg (by omega)]
 rfl
theorem jdk (x:Nat) (w:World):∃ r n,(callFunc 132 #[.float .f64 x]).run Tryz.prog w=.ok (.value (.float .f64 r)) (w.drewN n)∧FlS x r:=by
 have e : (callFunc 132 #[.float .f64 x]).run Tryz.prog w = ((Extern.MathFloor.toIntegral "math.archFloor" .down #[.float .f64 x]).run Tryz.prog w).andThen fun v w' => .ok (.value v) w' :=
  run_callFunc_extern (fn:=Tryz.f132) (by kernel_rfl) (by kernel_rfl) (by kernel_rfl) (by kernel_rfl) (by kernel_rfl) _ _
 rw [e]
 have e2 : ∃ q : Question, q.forced = false ∧ Extern.MathFloor.toIntegral "math.archFloor" .down #[.float .f64 x] = (match FloatKind.f64.decode x with
  | .nan s t =>
   if FloatKind.f64.format.quiet t=t then pure (.float .f64 x) else do
   let kept ← choose q
   pure (.float .f64 (if kept==1 then x else FloatKind.f64.encode (.nan s (FloatKind.f64.format.quiet t))))
  | d=>pure (.float .f64 (FloatKind.f64.encode (d.integral .down)))):=⟨_,by decide,rfl⟩
 obtain ⟨q,hq,e2⟩:=e2;rw [e2];unfold FlS
 cases h:FloatKind.f64.decode x with
 | number s m i=>exact ⟨_,0,by simp;rfl,rfl⟩
 | infinity s=>exact ⟨_,0,by simp;rfl,rfl⟩
 | nan s t =>
  by_cases ht:FloatKind.f64.format.quiet t=t
  ·refine ⟨_,0,by simp [ht];exact ⟨rfl,rfl⟩,?_⟩;simp only [h]
   rfl
  ·refine ⟨_,1,by simp [ht,hq];exact ⟨rfl,rfl⟩,?_⟩;simp only
   split
   ·rw [h];rfl
   ·exact jpD s t
theorem jmL:∃ (r:Nat→World→Nat) (n:Nat→World→Nat),∀ x w,(callFunc 132 #[.float .f64 x]).run Tryz.prog w=.ok (.value (.float .f64 (r x w))) (w.drewN (n x w))∧FlS x (r x w) :=
 ⟨fun x w=>Classical.choose (jdk x w),fun x w=>Classical.choose (Classical.choose_spec (jdk x w)),fun x w=>Classical.choose_spec (Classical.choose_spec (jdk x w))⟩
theorem jpE (x:Nat) (w:World):Calls Tryz.prog 82 #[.float .f64 x] w fun e w'=>∃ r n,Hid (FlS x r)∧e=.returned (.float .f64 r)∧w'=w.drewN n:=by
 obtain ⟨r,n,hh⟩:=jmL;have h:=fun x w=>(hh x w).1;have HS:Hid (∀ x w,FlS x (r x w)):=fun x w=>(hh x w).2;clear hh;go_enter Tryz.func82,Tryz.ntmps82;go_wp2;go_ret;exact ⟨_,_,HS.out _ _,rfl,rfl⟩
theorem ju3 (b:Nat) (hb:b<4294967296) (w1 w2:World) (r:Nat) (hr:FlS (cval .f32 .f64 b w1) r):tob (cval .f64 .f32 r w2)=flB b:=by
 unfold flB
 by_cases h1:2139095040<b % 2147483648
 ·rw [if_pos h1];exact juE b hb h1 w1 w2 r hr
 ·rw [if_neg h1]
  by_cases h2:b % 2147483648=2139095040
  ·rw [juD b hb h2 w1 w2 r hr];obtain ⟨s,hd,he⟩:=jhO b hb h2;have eW:flW b=b:=by unfold flW;rw [hd]
   rw [eW,jfO b hb,if_neg h1]
  ·rw [fl_in b hb (by omega) w1 w2 r hr];obtain ⟨f1,f2,f3⟩:=flW_fin b hb (by omega);rw [jfO _ f1,if_neg (by omega)]
theorem jrH (b:Nat) (w:World) (hb:b<4294967296):Calls Tryz.prog 49 #[.string ⟨#[70,108,111,111,114]⟩,.float .f32 b] w fun e w'=>∃ n,e=.returned (.tuple #[.int .i64 (flB b),.int .i64 0])∧w'=w.drewN n:=by
 have FA:Hid (∀ w1 w2 r,FlS (cval .f32 .f64 b w1) r→tob (cval .f64 .f32 r w2)=flB b):=fun w1 w2 r hr=>ju3 b hb w1 w2 r hr;clear hb;go_enter Tryz.func49,Tryz.ntmps49;go_wp2_with (first | (go_at_call 82;refine (jpE _ _).mono ?_;rintro e w' ⟨r,n,hs,rfl,rfl⟩) | (go_at_call 62;refine (jbo _ _ (cval_lt _ _)).mono ?_;rintro e w' ⟨rfl,rfl⟩) | go_in);go_ret2;exact ⟨_,congrArg (fun z=>Ending.returned (Value.tuple #[.int .i64 z,.int .i64 0])) (FA.out _ _ _ (Hid.out ‹_›)),rfl⟩
end Go.Proofs.YteigfipgmghgmaaGreatDoor.Nu
namespace Go.Proofs.YteigfipgmghgmaaGreatDoor.Nu
open Go.RowKit Mo
attribute [local go_sem] jbg jbh jbq jbB jcf
def eB (y:Nat):Nat:=((pD (rD y) 13:Nat)+kI y*4503599627370496:Int).toNat
def exW (b:Nat):Nat:=if (FloatKind.f32.format.order b b != some .eq)=true then b else if (FloatKind.f32.format.order b 1118961664==some .gt)=true then 2139095040 else if (FloatKind.f32.format.order b 3268542464==some .lt)=true then 0 else
 if 5183643170835005440≤eB (cv b) then 2139095040 else Ieee.single.write (Ieee.double.read (eB (cv b)))
theorem jt3 (n:Nat) (hn:n<13) (w:World):(convert 3 119 (.int .i64 ((13 - n:Nat):Int))).run Tryz.prog w=.ok (.float .f64 (dvD n)) w:=by
 rcases n with _ | _ | _ | _ | _ | _ | _ | _ | _ | _ | _ | _ | _ | n
 all_goals first | omega | kernel_rfl
theorem jdl {op:BinOp} {x y r:Nat} (h:floatBits op .f64 x y=some r) (t:TypeId) (w:World):(binOp op t (.float .f64 x) (.float .f64 y)).run Tryz.prog w=.ok (.float .f64 r) w:=run_float_arith w op t .f64 x y r h
theorem k_int (s:Bool) (M rk:Nat) (h1:rk<9218868437227405312) (h2:v64 rk=M*pw 1074) (hM:M≤160):floatToIntVal .f64 (Ieee.double.word s rk) .i64=some (if s then -(M:Int) else (M:Int)):=by
 obtain ⟨m,p,e1,p1,p2,hm,e2⟩:=ja8 s rk h1
 have key:Ieee.Toward.zero.cut s (m <<< p.toNat) (-p).toNat=M:=by
  rw [jhL,Nat.shiftLeft_eq];obtain ⟨c,hc⟩ : ∃ c:Nat,c=1074:=⟨_,rfl⟩
  have hx:m*2 ^ p.toNat*2 ^ (c - (-p).toNat)=M*2 ^ (-p).toNat*2 ^ (c - (-p).toNat):=by
   rw [Nat.mul_assoc,Nat.mul_assoc,← Nat.pow_add,← Nat.pow_add,show p.toNat+(c - (-p).toNat)=(p+1074).toNat from by omega,e2,h2,show (-p).toNat+(c - (-p).toNat)=c from by omega,hc,jdD]
  rw [Nat.eq_of_mul_eq_mul_right (Nat.two_pow_pos _) hx,Nat.mul_div_cancel _ (Nat.two_pow_pos _)]
 have ht:(FloatKind.f64.decode (Ieee.double.word s rk)).toInt .zero=some (if s then -(M:Int) else (M:Int)):=by
  rw [show FloatKind.f64.decode (Ieee.double.word s rk)=.number s m p from e1];unfold Ieee.Datum.toInt Ieee.Datum.integral;simp only;rw [key];unfold Ieee.signed;simp
 unfold floatToIntVal;rw [ht];simp only;have e1:IntKind.i64.min = -9223372036854775808:=rfl;have e2:IntKind.i64.max=9223372036854775807:=rfl;rw [if_pos (by rw [e1,e2];split <;> omega)]
theorem ju4 (b:Nat) (w:World) (h1:(FloatKind.f32.format.order b b != some .eq)=false) (h2:(FloatKind.f32.format.order b 1118961664==some .gt)=false) (h3:(FloatKind.f32.format.order b 3268542464==some .lt)=false) (X:ExpF b):Calls Tryz.prog 83 #[.float .f32 b] w fun e w'=>e=.returned (.float .f32 (exW b))∧∃ n,w'=w.drewN n:=by
 have up:∀ w,(convert 64 119 (.float .f32 b)).run Tryz.prog w=.ok (.float .f64 (cv b)) w:=fun w=>run_convert_float_float w _ _ .f32 .f64 b _ (by kernel_rfl) (by kernel_rfl) X.up;have z1:=jdl X.z1;have z2:=jdl X.z2;have kl:=jdl X.kl;have rr:=jdl X.r;have HX:Hid (ExpF b):=X;clear X;go_enter Tryz.func83,Tryz.ntmps83;go_wp2_with (first | (go_at_call 82;refine (jpE _ _).mono ?_;rintro e w' ⟨kf,n1,hk,rfl,rfl⟩;obtain rfl:=HX.out.k _ hk.out) | fail);go_loopw [6,7] (fun p i wr=>∃ n:Nat,n≤13∧i=.int .i64 ((13 - n:Nat):Int)∧p=.float .f64 (pD (rD (cv b)) n)∧wr=w.drewN n1) (fun _ i _=>(intOf i).toNat)
 case atStart=>exact ⟨0,by omega,rfl,rfl,rfl⟩
 case round =>
  obtain ⟨n,hn,rfl,rfl,rfl⟩:=hrel
  by_cases hlt:n<13
  ·have l1:(1:Int)≤((13 - n:Nat):Int):=by omega
   have cd:=jt3 n hlt;have s1:=jdl (HX.out.a n);have s2:=jdl (HX.out.d n);have s3:=jdl (HX.out.s n);have l2:wrap64 (((13 - n:Nat):Int) - 1)=((13 - (n+1):Nat):Int):=by unfold wrap64;omega
   obtain ⟨i0,hi0⟩ : ∃ i0:Int,i0=((13 - n:Nat):Int):=⟨_,rfl⟩
   rw [← hi0] at l1 cd l2 ⊢;have HI:Hid (i0=((13 - n:Nat):Int)):=hi0;clear hi0;go_wp2;go_roundw
   case rel=>exact ⟨n+1,by omega,by first | rfl | simp [l2],by first | rfl | trivial,by first | rfl | trivial⟩
   case measure=>have:=HI.out;simp [intOf];omega
  ·have he:n=13:=by omega
   subst he;obtain ⟨s,M,rk,q1,q2,q3,q4,q5,-⟩:=HX.out.kw;obtain ⟨rp,p1,p2,p3⟩:=HX.out.p;have ci:∀ w,(convert 119 3 (.float .f64 (kD (cv b)))).run Tryz.prog w=.ok (.int .i64 (kI (cv b))) w:=fun w=>run_convert_float_int w _ _ .f64 .i64 _ _ (by kernel_rfl) (by kernel_rfl) (by rw [q1,q5];exact k_int s M rk q2 q3 q4);have kb : -160≤kI (cv b)∧kI (cv b)≤160:=by rw [q5];split <;> omega
   rw [show Ieee.double.word false rp=rp from rfl] at p1;have LD:Hid (∀ w,Calls Tryz.prog 134 #[.float .f64 (pD (rD (cv b)) 13),.int .i64 (kI (cv b))] w fun e w'=>e=.returned (.float .f64 (eB (cv b)))∧w'=w):=fun w=>jt2 _ _ w (by rw [p1];exact p2) (by rw [p1];exact p3) kb.1 kb.2;have hE:eB (cv b)<9218868437227405312:=by unfold eB;rw [p1];omega
   have hW:exW b=(if 5183643170835005440≤eB (cv b) then 2139095040 else Ieee.single.write (Ieee.double.read (eB (cv b)))):=by
    unfold exW;rw [if_neg (by rw [h1];decide),if_neg (by rw [h2];decide),if_neg (by rw [h3];decide)]
   clear q1 q2 q3 q4 q5 p1 p2 p3 kb hlt hn;have FB:Hid (∀ w,Calls Tryz.prog 50 #[.int .i64 2139095040] w fun e w'=>e=.returned (.float .f32 2139095040)∧w'=w):=fun w=>jaH 2139095040 w
   by_cases hl:5183643170835005440≤eB (cv b)
   ·have og : (FloatKind.f64.format.order (eB (cv b)) 5183643170835005440 == some .gt || FloatKind.f64.format.order (eB (cv b)) 5183643170835005440 == some .eq) = true := by
      rw [jfc _ _ hE (by decide)]
      rcases Nat.lt_or_eq_of_le hl with h | h
      ·rw [jbM (by omega)];rfl
      ·rw [jcc (by omega)];rfl
    rw [if_pos hl] at hW;have HW:Hid (exW b=2139095040):=hW;clear hl hE hW;generalize eB (cv b)=E at *;go_wp2_with (first | (go_at_call 134;refine (LD.out _).mono ?_;rintro e w' ⟨rfl,rfl⟩) | (go_at_call 50;refine (FB.out _).mono ?_;rintro e w' ⟨rfl,rfl⟩) | fail);go_ret;exact ⟨by rw [HW.out];rfl,_,rfl⟩
   ·have og : (FloatKind.f64.format.order (eB (cv b)) 5183643170835005440 == some .gt || FloatKind.f64.format.order (eB (cv b)) 5183643170835005440 == some .eq) = false := by
      rw [jfc _ _ hE (by decide),jb3 (by omega)];rfl
    have dn:∀ w,(convert 119 64 (.float .f64 (eB (cv b)))).run Tryz.prog w=.ok (.float .f32 (exW b)) w:=fun w=>run_convert_float_float w _ _ .f64 .f32 _ _ (by kernel_rfl) (by kernel_rfl) (by rw [hW,if_neg hl];exact (jik _ (by omega)).1);clear hl hE hW;generalize eB (cv b)=E at *;go_wp2_with (first | (go_at_call 134;refine (LD.out _).mono ?_;rintro e w' ⟨rfl,rfl⟩) | fail);go_ret;exact ⟨rfl,_,rfl⟩
theorem ju5 (b:Nat) (hb:b<4294967296) (h:(FloatKind.f32.format.order b b != some .eq)=false):b % 2147483648≤2139095040:=by
 rw [jcZ,jbs b hb] at h;apply Decidable.byContradiction;intro hc;rw [decide_eq_true (by omega)] at h;exact absurd h (by decide)
theorem jrI (b:Nat) (w:World) (hb:b<4294967296):Calls Tryz.prog 83 #[.float .f32 b] w fun e w'=>e=.returned (.float .f32 (exW b))∧∃ n,w'=w.drewN n:=by
 cases h1:(FloatKind.f32.format.order b b != some .eq) with
 | true =>
  have HW:Hid (exW b=b):=by show exW b=b;unfold exW;rw [if_pos h1]
  go_enter Tryz.func83,Tryz.ntmps83;go_wp2;go_ret;exact ⟨by rw [HW.out];rfl,0,rfl⟩
 | false =>
  cases h2:(FloatKind.f32.format.order b 1118961664==some .gt) with
  | true =>
   have HW:Hid (exW b=2139095040):=by show exW b=_;unfold exW;rw [if_neg (by rw [h1];decide),if_pos h2]
   have FB:Hid (∀ w,Calls Tryz.prog 50 #[.int .i64 2139095040] w fun e w'=>e=.returned (.float .f32 2139095040)∧w'=w):=fun w=>jaH 2139095040 w;go_enter Tryz.func83,Tryz.ntmps83;go_wp2_with (first | (go_at_call 50;refine (FB.out _).mono ?_;rintro e w' ⟨rfl,rfl⟩) | fail);go_ret;exact ⟨by rw [HW.out];rfl,0,rfl⟩
  | false =>
   cases h3:(FloatKind.f32.format.order b 3268542464==some .lt) with
   | true =>
    have HW:Hid (exW b=0):=by show exW b=_;unfold exW;rw [if_neg (by rw [h1];decide),if_neg (by rw [h2];decide),if_pos h3]
    go_enter Tryz.func83,Tryz.ntmps83;go_wp2;go_ret;exact ⟨by rw [HW.out];rfl,0,rfl⟩
   | false=>exact ju4 b w h1 h2 h3 (jjw b hb (jkL b hb (ju5 b hb h1) h2 h3))
theorem exW_lt (b:Nat) (hb:b<4294967296):exW b<4294967296:=by
 unfold exW
 split
 ·exact hb
 ·split
  ·decide
  ·split
   ·decide
   ·split
    ·decide
    ·rename_i h;have:=(jik _ (Nat.lt_of_not_le h)).2;omega
end Go.Proofs.YteigfipgmghgmaaGreatDoor.Nu
namespace Go.Proofs.YteigfipgmghgmaaGreatDoor.Nu
open Go.RowKit Mo
attribute [local go_sem] jbg jbh jbq jbB jcf
theorem jpF (d:Ieee.Datum) (h:d.isNaN=false):Ieee.single.write d % 2147483648≤2139095040∧Ieee.single.write d<4294967296:=by
 have key:∀ (s:Bool) (r:Nat),r≤2139095040→Ieee.single.word s r % 2147483648≤2139095040∧Ieee.single.word s r<4294967296:=fun s r hr=>by
  unfold Ieee.Format.word;have e5:Ieee.single.signWeight=2147483648:=rfl;rw [e5]
  split <;> omega
 cases d with
 | number s m p =>
  show Ieee.single.nearest s m p % 2147483648≤2139095040∧Ieee.single.nearest s m p<4294967296;unfold Ieee.Format.nearest
  split
  ·exact key s 0 (by decide)
  ·exact key s _ (Nat.min_le_right _ _)
 | infinity s=>exact key s _ (Nat.le_refl _)
 | nan s t=>simp [Ieee.Datum.isNaN] at h
theorem jrJ {op:BinOp} {x y r:Nat} (h:floatBits op .f32 x y=some r):r % 2147483648≤2139095040∧r<4294967296:=by
 have key:∀ o:Option Ieee.Datum,(∀ d,o=some d→d.isNaN=false)→o.map Ieee.single.write=some r→r % 2147483648≤2139095040∧r<4294967296:=fun o ho he=>by
  cases o with
  | none=>cases he
  | some d =>
   simp only [Option.map_some,Option.some.injEq] at he;rw [← he];exact jpF d (ho d rfl)
 have hs:∀ a b d:Ieee.Datum,a.sum b=some d→d.isNaN=false:=fun a b d he=>by
  cases a <;> cases b <;> simp [Ieee.Datum.sum] at he <;> first | (subst he;rfl) | (obtain ⟨-,rfl⟩:=he;rfl)
 have hp:∀ a b d:Ieee.Datum,a.product b=some d→d.isNaN=false:=fun a b d he=>by
  cases a <;> cases b <;> simp [Ieee.Datum.product] at he <;> first | (subst he;rfl) | (obtain ⟨-,rfl⟩:=he;rfl)
 have hq:∀ (k:Nat) (a b d:Ieee.Datum),a.quotient k b=some d→d.isNaN=false:=fun k a b d he=>by
  cases a <;> cases b <;> simp [Ieee.Datum.quotient] at he
  all_goals first | (subst he;rfl) | (split at he;(split at he;cases he;(cases he;rfl));(cases he;rfl))
 cases op with
 | add=>exact key _ (fun d he=>hs _ _ d he) h
 | sub=>exact key _ (fun d he=>hs _ _ d he) h
 | mul=>exact key _ (fun d he=>hp _ _ d he) h
 | quo=>exact key _ (fun d he=>hq _ _ _ d he) h
 | _=>cases h
end Go.Proofs.YteigfipgmghgmaaGreatDoor.Nu
namespace Go.Proofs.YteigfipgmghgmaaGreatDoor.Nu
open Go.RowKit Mo
attribute [local go_sem] jeu jcJ jbg jbh jbq jbB jcf
def SqS (x r:Nat):Prop:=match FloatKind.f64.format.sqrt x with
 | some q=>r=q
 | none=>(FloatKind.f64.decode r).isNaN=true
theorem ju6 (t x y:Nat):(FloatKind.f64.decode ((Question.nanBits .f64 x y).cut t)).isNaN=true:=js2 t 0
theorem ext_sqrtS_ex (x:Nat) (w:World):∃ r n,(callFunc 131 #[.float .f64 x]).run Tryz.prog w=.ok (.value (.float .f64 r)) (w.drewN n)∧SqS x r:=by
 have e:(callFunc 131 #[.float .f64 x]).run Tryz.prog w=((Extern.MathSqrt.sqrt #[.float .f64 x]).run Tryz.prog w).andThen fun v w'=>.ok (.value v) w' :=
  run_callFunc_extern (fn:=Tryz.f131) (by kernel_rfl) (by kernel_rfl) (by kernel_rfl) (by kernel_rfl) (by kernel_rfl) _ _
 rw [e,joC];unfold SqS
 cases h:FloatKind.f64.format.sqrt x with
 | some r=>exact ⟨r,0,by simp;rfl,rfl⟩
 | none=>exact ⟨_,1,by simp [Question.forced];exact ⟨rfl,rfl⟩,ju6 _ x x⟩
theorem jpG:∃ (r:Nat→World→Nat) (n:Nat→World→Nat),∀ x w,(callFunc 131 #[.float .f64 x]).run Tryz.prog w=.ok (.value (.float .f64 (r x w))) (w.drewN (n x w))∧SqS x (r x w) :=
 ⟨fun x w=>Classical.choose (ext_sqrtS_ex x w),fun x w=>Classical.choose (Classical.choose_spec (ext_sqrtS_ex x w)),fun x w=>Classical.choose_spec (Classical.choose_spec (ext_sqrtS_ex x w))⟩
theorem ju7 (x:Nat) (w:World):Calls Tryz.prog 81 #[.float .f64 x] w fun e w'=>∃ r n,Hid (SqS x r)∧e=.returned (.float .f64 r)∧w'=w.drewN n:=by
 obtain ⟨r,n,hh⟩:=jpG;have h:=fun x w=>(hh x w).1;have HS:Hid (∀ x w,SqS x (r x w)):=fun x w=>(hh x w).2;clear hh;go_enter Tryz.func81,Tryz.ntmps81;go_wp2;go_ret;exact ⟨_,_,HS.out _ _,rfl,rfl⟩
def sqB (b:Nat):Int:=tobO ((floatToFloatBits .f32 b .f64).bind fun x=>(FloatKind.f64.format.sqrt x).bind fun r=>floatToFloatBits .f64 r .f32)
theorem jlv (r:Nat) (w:World) (h:(FloatKind.f64.decode r).isNaN=true):tob (cval .f64 .f32 r w)=2143289344:=by
 have e2:floatToFloatBits .f64 r .f32=none:=by
  unfold floatToFloatBits;rw [if_neg (by decide)]
  cases hd:FloatKind.f64.decode r with
  | nan s t=>rfl
  | number s m i=>rw [hd] at h;cases h
  | infinity s=>rw [hd] at h;cases h
 unfold cval cq;rw [e2,if_pos h];exact jhI _ r r
theorem jrK (x:Nat) (h:(FloatKind.f64.decode x).isNaN=true):FloatKind.f64.format.sqrt x=none:=by
 have h':(FloatKind.f64.format.read x).isNaN=true:=h;unfold Ieee.Format.sqrt
 cases hd:FloatKind.f64.format.read x with
 | nan s t=>rfl
 | number s m i=>rw [hd] at h';cases h'
 | infinity s=>rw [hd] at h';cases h'
theorem sq_all (b:Nat) (hb:b<4294967296) (w1 w2:World) (r:Nat) (hr:SqS (cval .f32 .f64 b w1) r):tob (cval .f64 .f32 r w2)=sqB b:=by
 unfold sqB
 cases hx:floatToFloatBits .f32 b .f64 with
 | none =>
  have hn:(FloatKind.f32.decode b).isNaN=true:=by
   have hd:FloatKind.f32.decode b=rdm (decide (2147483648≤b)) (b % 2147483648):=jcg b hb
   by_cases h1:b % 2147483648<2139095040
   ·obtain ⟨ry,e1,e2,e3,e4⟩:=jj8 b hb h1;rw [hx] at e4;cases e4
   ·by_cases h2:b % 2147483648=2139095040
    ·obtain ⟨s,g1,g2⟩:=jhO b hb h2;unfold floatToFloatBits at hx;rw [if_neg (by decide),g1] at hx
     cases hx
    ·have:=jbs b hb;rw [show FloatKind.f32.decode b=FloatKind.f32.format.read b from rfl,this,decide_eq_true (by omega)]
  have hc:(FloatKind.f64.decode (cval .f32 .f64 b w1)).isNaN=true:=by
   unfold cval cq;rw [hx,if_pos hn];exact js2 _ b
  unfold SqS at hr;rw [jrK _ hc] at hr;rw [jlv r w2 hr];rfl
 | some x =>
  have hc:cval .f32 .f64 b w1=x:=by unfold cval;rw [hx]
  unfold SqS at hr;rw [hc] at hr
  cases hs:FloatKind.f64.format.sqrt x with
  | none =>
   rw [hs] at hr;rw [jlv r w2 hr,Option.bind_some,hs];rfl
  | some q =>
   rw [hs] at hr;obtain ⟨r32,e⟩:=jtX b hb x q hx hs;have hq:r=q:=hr;rw [Option.bind_some,hs,Option.bind_some,hq,e];unfold cval;rw [e];rfl
theorem jrL (b:Nat) (w:World) (hb:b<4294967296):Calls Tryz.prog 49 #[.string ⟨#[83,113,114,116]⟩,.float .f32 b] w fun e w'=>∃ n,e=.returned (.tuple #[.int .i64 (sqB b),.int .i64 0])∧w'=w.drewN n:=by
 have FA:Hid (∀ w1 w2 r,SqS (cval .f32 .f64 b w1) r→tob (cval .f64 .f32 r w2)=sqB b):=fun w1 w2 r hr=>sq_all b hb w1 w2 r hr;clear hb;go_enter Tryz.func49,Tryz.ntmps49;go_wp2_with (first | (go_at_call 81;refine (ju7 _ _).mono ?_;rintro e w' ⟨r,n,hs,rfl,rfl⟩) | (go_at_call 62;refine (jbo _ _ (cval_lt _ _)).mono ?_;rintro e w' ⟨rfl,rfl⟩) | go_in);go_ret2;exact ⟨_,congrArg (fun z=>Ending.returned (Value.tuple #[.int .i64 z,.int .i64 0])) (FA.out _ _ _ (Hid.out ‹_›)),rfl⟩
theorem jrM (b:Nat) (w:World) (hb:b<4294967296):Calls Tryz.prog 49 #[.string ⟨#[69,120,112]⟩,.float .f32 b] w fun e w'=>∃ n,e=.returned (.tuple #[.int .i64 (tob (exW b)),.int .i64 0])∧w'=w.drewN n:=by
 have EX:Hid (∀ w,Calls Tryz.prog 83 #[.float .f32 b] w fun e w'=>e=.returned (.float .f32 (exW b))∧∃ n,w'=w.drewN n):=fun w=>jrI b w hb;have TB:Hid (∀ w,Calls Tryz.prog 62 #[.float .f32 (exW b)] w fun e w'=>e=.returned (.int .i64 (tob (exW b)))∧w'=w):=fun w=>jbo _ w (exW_lt b hb);clear hb;go_enter Tryz.func49,Tryz.ntmps49;go_wp2_with (first | (go_at_call 83;refine (EX.out _).mono ?_;rintro e w' ⟨rfl,n,rfl⟩) | (go_at_call 62;refine (TB.out _).mono ?_;rintro e w' ⟨rfl,rfl⟩) | go_in);go_ret2;exact ⟨_,rfl,rfl⟩
theorem jt4 (x y:Nat) (h:(FloatKind.f32.format.read y).isNaN=true):floatBits .quo .f32 x y=none:=by
 show (Option.map _ (Ieee.Datum.quotient _ (FloatKind.f32.format.read x) (FloatKind.f32.format.read y)))=none
 cases hy:FloatKind.f32.format.read y with
 | nan s t=>cases FloatKind.f32.format.read x <;> rfl
 | number s m i=>rw [hy] at h;cases h
 | infinity s=>rw [hy] at h;cases h
theorem jsn (x y t:Nat):(FloatKind.f32.format.read (nb x y t)).isNaN=true:=by
 have h:=jfP x y t;rw [jr6] at h
 cases hn:(FloatKind.f32.format.read (nb x y t)).isNaN with
 | true=>rfl
 | false =>
  rw [hn,if_neg (by decide)] at h;have h':nb x y t=2143289344:=by omega
  rw [h'] at hn;exact absurd hn (by decide +kernel)
def sgI (e:Nat):Int:=match floatBits .add .f32 1065353216 e with
 | some a=>tobO (floatBits .quo .f32 1065353216 a)
 | none=>2143289344
theorem ju8 (e:Nat) (w1 w2:World):tob (jdv .quo .f32 1065353216 (jdv .add .f32 1065353216 e w1) w2)=sgI e:=by
 have hq:∀ y,tob (jdv .quo .f32 1065353216 y w2)=tobO (floatBits .quo .f32 1065353216 y):=fun y=>by
  unfold jdv
  cases h:floatBits .quo .f32 1065353216 y with
  | some r=>rfl
  | none=>exact jhI _ _ _
 rw [hq];unfold sgI
 cases h:floatBits .add .f32 1065353216 e with
 | some a=>unfold jdv;rw [h]
 | none =>
  unfold jdv;rw [h];show tobO (floatBits .quo .f32 1065353216 (nb 1065353216 e _))=2143289344;rw [jt4 _ _ (jsn _ _ _)];rfl
end Go.Proofs.YteigfipgmghgmaaGreatDoor.Nu
namespace Go.Proofs.YteigfipgmghgmaaGreatDoor.Nu
open Go.RowKit Mo
attribute [local go_sem] jbg jbh jbq jbB jcf jdY jdZ jd0 jd1
theorem jpH (b:Nat) (w:World) (hb:b<4294967296):Calls Tryz.prog 84 #[.float .f32 b] w fun e w'=>∃ r n,Hid (tob r=sgI (exW (negF b))∧r<4294967296)∧e=.returned (.float .f32 r)∧w'=w.drewN n:=by
 have EX:Hid (∀ w,Calls Tryz.prog 83 #[.float .f32 (negF b)] w fun e w'=>e=.returned (.float .f32 (exW (negF b)))∧∃ n,w'=w.drewN n):=fun w=>jrI _ w (negF_lt b hb);clear hb;go_enter Tryz.func84,Tryz.ntmps84;go_wp2_with (first | (go_at_call 83;refine (EX.out _).mono ?_;rintro e w' ⟨rfl,n,rfl⟩) | fail);go_ret;exact ⟨_,_,⟨ju8 _ _ _,je3 _ _ _ _⟩,rfl,rfl⟩
theorem jrN (b:Nat) (w:World) (hb:b<4294967296):Calls Tryz.prog 49 #[.string ⟨#[83,105,103,109,111,105,100]⟩,.float .f32 b] w fun e w'=>∃ n,e=.returned (.tuple #[.int .i64 (sgI (exW (negF b))),.int .i64 0])∧w'=w.drewN n:=by
 have SG:Hid (∀ w,Calls Tryz.prog 84 #[.float .f32 b] w fun e w'=>∃ r n,Hid (tob r=sgI (exW (negF b))∧r<4294967296)∧e=.returned (.float .f32 r)∧w'=w.drewN n):=fun w=>jpH b w hb;clear hb;go_enter Tryz.func49,Tryz.ntmps49;go_wp2_with (first | (go_at_call 84;refine (SG.out _).mono ?_;rintro e w' ⟨r,n,hr,rfl,rfl⟩) | (go_at_call 62;refine (jbo _ _ hr.out.2).mono ?_;rintro e w' ⟨rfl,rfl⟩) | fail);go_ret2;exact ⟨_,congrArg (fun z=>Ending.returned (Value.tuple #[.int .i64 z,.int .i64 0])) hr.out.1,rfl⟩
end Go.Proofs.YteigfipgmghgmaaGreatDoor.Nu
namespace Go.Proofs.YteigfipgmghgmaaGreatDoor.Nu
open Go.RowKit Mo
attribute [local go_sem] jeu jcJ jbg jbh jbq jbB jcf
theorem jso (b:Nat) (hb:b<4294967296) (h:b % 2147483648≤2139095040):tob b=(b:Int):=by rw [jfO b hb,if_neg (by omega)]
theorem jt5 (x y:Nat) (h:(FloatKind.f32.format.read y).isNaN=true):floatBits .add .f32 x y=none:=by
 show (Option.map _ (Ieee.Datum.sum (FloatKind.f32.format.read x) (FloatKind.f32.format.read y)))=none;rw [jnz _ _ h];rfl
theorem jt6 (b:Nat) (h:(FloatKind.f32.format.read b).isNaN=true):exW b=b:=by
 unfold exW;rw [if_pos (by rw [jcZ,h];rfl)]
end Go.Proofs.YteigfipgmghgmaaGreatDoor.Nu
namespace Go.Proofs.YteigfipgmghgmaaGreatDoor.Nu
open Go.RowKit Mo
def jsp (s:Bool) (r:Nat):Int:=if s then -(val r:Int) else (val r:Int)
theorem jlw (s:Bool) (r m d:Nat) (base:Int) (hb:base ≤ -149+(d:Int)) (h0 : -149≤base) (e:val r=m*2 ^ d):Ieee.signed s m (-149+(d:Int) - base).toNat*((2 ^ (base+149).toNat:Nat):Int)=jsp s r:=by
 have hh:m <<< (-149+(d:Int) - base).toNat*2 ^ (base+149).toNat=val r:=by
  rw [Nat.shiftLeft_eq,Nat.mul_assoc,← Nat.pow_add,e,show (-149+(d:Int) - base).toNat+(base+149).toNat=d from by omega]
 unfold Ieee.signed jsp;rw [← hh]
 cases s
 ·simp
 ·simp [Int.neg_mul]
theorem jt7 (s t:Bool) (r q:Nat) (hr:r<2139095040) (hq:q<2139095040):∃ (g:Bool) (T:Nat) (B:Int),(rdm s r).sum (rdm t q)=some (.number g T B) ∧ -149≤B∧T*2 ^ (B+149).toNat=(jsp s r+jsp t q).natAbs:=by
 obtain ⟨m,d,e1,v1⟩:=jcu s r hr;obtain ⟨n,e,e2,v2⟩:=jcu t q hq;have g1:=jlw s r m d (min (-149+(d:Int)) (-149+(e:Int))) (by omega) (by omega) v1;have g2:=jlw t q n e (min (-149+(d:Int)) (-149+(e:Int))) (by omega) (by omega) v2;rw [e1,e2];unfold Ieee.Datum.sum;refine ⟨_,_,_,rfl,by omega,?_⟩;rw [← g1,← g2,← Int.add_mul,Int.natAbs_mul];simp
theorem jeT (s:Bool) (m:Nat) (p B:Int) (h:m=0∨p+m.log2≤B) (h1 : -126≤B) (h2:B≤126):∃ r,Ieee.single.nearest s m p=Ieee.single.word s r∧r≤(B+128).toNat*8388608∧(m≠0→0≤p+m.log2→1≤r):=by
 unfold Ieee.Format.nearest
 by_cases h0:m=0
 ·rw [if_pos h0];exact ⟨0,rfl,by omega,fun hc=>absurd h0 hc⟩
 rw [if_neg h0];have hB:p+m.log2≤B:=by omega
 obtain ⟨l1,l2⟩ : 2 ^ m.log2≤m∧m<2 ^ (m.log2+1):=⟨Nat.log2_self_le h0,Nat.lt_log2_self⟩
 have c1:Ieee.single.leastPlace = -149:=rfl;have c2:Ieee.single.binade=8388608:=rfl;have c3:Ieee.single.infRung=2139095040:=rfl;have c4:((Ieee.single.fractionBits:Nat):Int)=23:=rfl;simp only [c1,c2,c3,c4];generalize hl:max (p+(m.log2:Int) - 23) (-149)=last;obtain ⟨k1,-⟩:=jfs s (m <<< (p - last).toNat) (last - p).toNat
 have hM:m <<< (p - last).toNat<2 ^ 24*2 ^ (last - p).toNat:=by
  rw [Nat.shiftLeft_eq,← Nat.pow_add];refine Nat.lt_of_lt_of_le (Nat.mul_lt_mul_of_pos_right l2 (Nat.two_pow_pos _)) ?_;rw [← Nat.pow_add];exact Nat.pow_le_pow_right (by decide) (by omega)
 have hd:0<2 ^ (last - p).toNat:=Nat.two_pow_pos _;generalize Ieee.Toward.even.cut s (m <<< (p - last).toNat) (last - p).toNat=K at *;generalize m <<< (p - last).toNat=M at *
 have hK:K≤16777216:=by
  generalize 2 ^ (last - p).toNat=G at *
  have h3:K*G*2<(16777216+1)*G*2:=by
   have:2*K*G=K*G*2:=by rw [Nat.mul_assoc,Nat.mul_comm]
   rw [Nat.add_mul];omega
  have h4:=Nat.lt_of_mul_lt_mul_right (Nat.lt_of_mul_lt_mul_right h3);omega
 refine ⟨_,rfl,?_,fun _ hp=>?_⟩
 ·refine Nat.le_trans (Nat.min_le_left _ _) ?_;have:(last - -149).toNat≤(B+126).toNat:=by omega
  omega
 ·have h8:126≤(last - -149).toNat:=by omega
  generalize (last - -149).toNat=z at h8 ⊢;exact Nat.le_min.2 ⟨by omega,by decide⟩
theorem jpI {T:Nat} {B:Int} {k:Nat} (hB : -149≤B) (h:T*2 ^ (B+149).toNat<2 ^ k):T=0∨B+T.log2≤(k:Int) - 150:=by
 by_cases h0:T=0
 ·exact .inl h0
 ·refine .inr ?_;have l1:2 ^ T.log2≤T:=Nat.log2_self_le h0;have h2:2 ^ (T.log2+(B+149).toNat)<2 ^ k:=by rw [Nat.pow_add];exact Nat.lt_of_le_of_lt (Nat.mul_le_mul_right _ l1) h
  have:=(Nat.pow_lt_pow_iff_right (a:=2) (by decide)).1 h2;omega
theorem jdm (r:Nat) (h:r≤2139095040):FloatKind.f32.format.read r=rdm false r:=by
 have:=jcg r (by omega);rw [decide_eq_false (by omega),Nat.mod_eq_of_lt (by omega)] at this;exact this
theorem jlx {r s:Nat} (h:r≤s):val r≤val s:=by
 rcases Nat.lt_or_eq_of_le h with h | h
 ·exact Nat.le_of_lt (jeG _ _ h)
 ·rw [h];exact Nat.le_refl _
theorem jpJ (d:Nat) (h:d≤1107296256):exW d≤1585446912:=by
 have hd:=jdm d (by omega);have h1:(FloatKind.f32.format.order d d != some .eq)=false:=by rw [jcZ,jbs d (by omega),decide_eq_false (by omega)];rfl
 have h2:(FloatKind.f32.format.order d 1118961664==some .gt)=false:=by
  unfold Ieee.Format.order;rw [hd,jdm 1118961664 (by decide),jd2 false _ _ (by omega) (by decide),if_neg (by decide),jb3 (by exact_mod_cast jeG _ _ (by omega))]
  rfl
 have h3:(FloatKind.f32.format.order d 3268542464==some .lt)=false:=by
  unfold Ieee.Format.order;have c2:FloatKind.f32.format.read 3268542464=rdm true 1121058816:=jcg 3268542464 (by decide);obtain ⟨m,e,e1,v1⟩:=jcu false d (by omega);obtain ⟨n,f,e2,v2⟩:=jcu true 1121058816 (by decide);rw [hd,c2,e1,e2];unfold Ieee.Datum.order;simp only
  have:¬ Ieee.signed false m (-149+(e:Int) - min (-149+(e:Int)) (-149+(f:Int))).toNat<Ieee.signed true n (-149+(f:Int) - min (-149+(e:Int)) (-149+(f:Int))).toNat:=by
   unfold Ieee.signed;simp only [Bool.false_eq_true,if_false,if_true];exact Int.not_lt.2 (Int.le_trans (Int.neg_nonpos_of_nonneg (Int.natCast_nonneg _)) (Int.natCast_nonneg _))
  rcases Int.lt_trichotomy (Ieee.signed false m (-149+(e:Int) - min (-149+(e:Int)) (-149+(f:Int))).toNat) (Ieee.signed true n (-149+(f:Int) - min (-149+(e:Int)) (-149+(f:Int))).toNat) with g | g | g
  ·exact absurd g this
  ·rw [jcc g];rfl
  ·rw [jbM g];rfl
 have X:=jjw d (by omega) (by rw [Nat.mod_eq_of_lt (by omega)];omega);obtain ⟨s,M,rk,q1,q2,q3,q4,q5,q6⟩:=X.kw;obtain ⟨rp,p1,p2,p3⟩:=X.p;have hM:=q6 (by rw [Nat.mod_eq_of_lt (by omega)];exact h);rw [show Ieee.double.word false rp=rp from rfl] at p1
 have hE:eB (cv d)≤4880213146209353728:=by
  have hk:kI (cv d)≤60:=by
   rw [q5]
   cases s
   ·simp only [Bool.false_eq_true,if_false];omega
   ·simp only [if_true];omega
  unfold eB;rw [p1];generalize kI (cv d)=k at hk ⊢;clear X q1 q2 q3 q4 q5 q6 p1 h1 h2 h3 hd;omega
 unfold exW;rw [if_neg (by rw [h1];decide),if_neg (by rw [h2];decide),if_neg (by rw [h3];decide),if_neg (by omega)];obtain ⟨m,p,f1,f2,f3,f4,f5⟩:=ja8 false (eB (cv d)) (by omega);rw [show Ieee.double.word false (eB (cv d))=eB (cv d) from rfl] at f1;rw [f1]
 have hv:m*2 ^ (p+1074).toNat<pw 1136:=by
  rw [f5];refine Nat.lt_of_le_of_lt (jeI hE) ?_
  decide +kernel
 have hlog:m=0∨p+m.log2≤61:=by
  by_cases h0:m=0
  ·exact .inl h0
  ·refine .inr ?_;obtain ⟨c,hc⟩ : ∃ c:Nat,c=1136:=⟨_,rfl⟩
   rw [← hc,jdD] at hv;have l1:2 ^ m.log2≤m:=Nat.log2_self_le h0;have h2:2 ^ (m.log2+(p+1074).toNat)<2 ^ c:=by rw [Nat.pow_add];exact Nat.lt_of_le_of_lt (Nat.mul_le_mul_right _ l1) hv
   have:=(Nat.pow_lt_pow_iff_right (a:=2) (by decide)).1 h2;omega
 obtain ⟨r,g1,g2,-⟩:=jeT false m p 61 hlog (by decide) (by decide);show Ieee.single.nearest false m p≤_;rw [g1];exact g2
theorem jsq (s:Bool) (r:Nat) (h:r<2139095040):FloatKind.f32.format.read (Ieee.single.word s r)=rdm s r:=by
 have e5:Ieee.single.signWeight=2147483648:=rfl;have hlt:Ieee.single.word s r<4294967296:=by unfold Ieee.Format.word;rw [e5];split <;> omega
 rw [jcg _ hlt];unfold Ieee.Format.word;rw [e5]
 cases s with
 | false=>simp only [Bool.false_eq_true,if_false];rw [decide_eq_false (by omega),Nat.mod_eq_of_lt (by omega)]
 | true=>simp only [if_true];rw [decide_eq_true (by omega),show (2147483648+r) % 2147483648=r from by omega]
theorem jt8 (a:Nat) (ha:a≤1092616192):∃ d s1 s2 q,floatBits .add .f32 a a=some d∧d≤1107296256∧floatBits .sub .f32 (exW d) 1065353216=some s1∧floatBits .add .f32 (exW d) 1065353216=some s2∧floatBits .quo .f32 s1 s2=some q:=by
 obtain ⟨g,T,B,e1,e2,e3⟩:=jt7 false false a a (by omega) (by omega);have hva:val a≤10*2 ^ 149:=by rw [← show val 1092616192=10*2 ^ 149 from by decide +kernel];exact jlx ha
 have hlog := jpI (k := 154) e2 (by rw [e3]; unfold jsp; simp only [Bool.false_eq_true, if_false]; have : (10 : Nat) * 2 ^ 149 * 2 < 2 ^ 154 := (by decide); omega)
 obtain ⟨r,g1,g2,-⟩:=jeT g T B 4 (by omega) (by decide) (by decide)
 have hadd:floatBits .add .f32 a a=some (Ieee.single.word g r):=by
  show Option.map _ (Ieee.Datum.sum (FloatKind.f32.format.read a) (FloatKind.f32.format.read a))=_;rw [jdm a (by omega),e1];exact congrArg some g1
 have hg:g=false:=by
  obtain ⟨m,d,f1,f2⟩:=jcu false a (by omega);rw [f1] at e1;unfold Ieee.Datum.sum at e1;simp only [Option.some.injEq,Ieee.Datum.number.injEq] at e1;rw [← e1.1];unfold Ieee.signed;simp only [Bool.false_eq_true,if_false]
  split
  ·rfl
  ·exact decide_eq_false (Int.not_lt.2 (Int.add_nonneg (Int.natCast_nonneg _) (Int.natCast_nonneg _)))
 subst hg;have hr:r≤1107296256:=g2;rw [show Ieee.single.word false r=r from rfl] at hadd;have hE:=jpJ r hr;have hone:FloatKind.f32.format.read 1065353216=rdm false 1065353216:=jdm _ (by decide);have hEr:FloatKind.f32.format.read (exW r)=rdm false (exW r):=jdm _ (by omega);have hvE:val (exW r)≤2 ^ 211:=by rw [← show val 1585446912=2 ^ 211 from by decide +kernel];exact jlx hE
 have hv1:val 1065353216=2 ^ 149:=by decide +kernel
 have hp:(2:Nat) ^ 211+2 ^ 149<2 ^ 212:=by decide
 obtain ⟨ga,Ta,Ba,a1,a2,a3⟩:=jt7 false false (exW r) 1065353216 (by omega) (by decide);obtain ⟨gs,Ts,Bs,b1,b2,b3⟩:=jt7 false true (exW r) 1065353216 (by omega) (by decide);have la:=jpI (k:=212) a2 (by rw [a3];unfold jsp;simp only [Bool.false_eq_true,if_false];rw [hv1];omega);have lb:=jpI (k:=212) b2 (by rw [b3];unfold jsp;simp only [Bool.false_eq_true,if_false,if_true];rw [hv1];omega);obtain ⟨ra,c1,c2,c3⟩:=jeT ga Ta Ba 62 (by omega) (by decide) (by decide);obtain ⟨rs,d1,d2,-⟩:=jeT gs Ts Bs 62 (by omega) (by decide) (by decide);have hge:2 ^ 149≤Ta*2 ^ (Ba+149).toNat:=by rw [a3];unfold jsp;simp only [Bool.false_eq_true,if_false];rw [hv1];omega
 have hTa:Ta≠0:=by intro hc;rw [hc,Nat.zero_mul] at hge;have:=Nat.two_pow_pos 149;omega
 have hlo:0≤Ba+Ta.log2:=by
  have l2:Ta<2 ^ (Ta.log2+1):=Nat.lt_log2_self;have h2:2 ^ 149<2 ^ (Ta.log2+1+(Ba+149).toNat):=by rw [Nat.pow_add];exact Nat.lt_of_le_of_lt hge (Nat.mul_lt_mul_of_pos_right l2 (Nat.two_pow_pos _))
  have:=(Nat.pow_lt_pow_iff_right (a:=2) (by decide)).1 h2;omega
 have hra:=c3 hTa hlo
 have hs2:floatBits .add .f32 (exW r) 1065353216=some (Ieee.single.word ga ra):=by
  show Option.map _ (Ieee.Datum.sum (FloatKind.f32.format.read (exW r)) (FloatKind.f32.format.read 1065353216))=_;rw [hEr,hone,a1];exact congrArg some c1
 have hs1:floatBits .sub .f32 (exW r) 1065353216=some (Ieee.single.word gs rs):=by
  show Option.map _ (Ieee.Datum.sum (FloatKind.f32.format.read (exW r)) (FloatKind.f32.format.read 1065353216).opposite)=_;rw [hEr,hone,jiR,show (!false)=true from rfl,b1];exact congrArg some d1
 have n1:ra≤1593835520:=c2;have n2:rs≤1593835520:=d2;clear c2 d2;obtain ⟨m1,i1,f1,-⟩:=jcu gs rs (by omega);obtain ⟨m2,i2,f2,w2⟩:=jcu ga ra (by omega)
 have hm2:m2≠0:=by
  intro hc;rw [hc,Nat.zero_mul] at w2;have:=jeG 0 ra (by omega);omega
 have hq:∃ q,floatBits .quo .f32 (Ieee.single.word gs rs) (Ieee.single.word ga ra)=some q:=by
  show ∃ q,Option.map _ (Ieee.Datum.quotient _ (FloatKind.f32.format.read (Ieee.single.word gs rs)) (FloatKind.f32.format.read (Ieee.single.word ga ra)))=some q;rw [jsq gs rs (by omega),jsq ga ra (by omega),f1,f2];unfold Ieee.Datum.quotient;simp only;rw [if_neg hm2];exact ⟨_,rfl⟩
 obtain ⟨q,hq⟩:=hq;exact ⟨r,_,_,q,hadd,hr,hs1,hs2,hq⟩
end Go.Proofs.YteigfipgmghgmaaGreatDoor.Nu
namespace Go.Proofs.YteigfipgmghgmaaGreatDoor.Nu
open Go.RowKit Mo
attribute [local go_sem] jbg jbh jbq jbB jcf jdY jdZ jd0 jd1
theorem jt9 (b:Nat) (h:b<4294967296):bits .and .u32 (b:Int) 2147483648=((b / 2147483648*2147483648:Nat):Int):=by
 have e:=u32_and_nat b 2147483648 h (by decide);rw [show ((2147483648:Nat):Int)=2147483648 from rfl] at e;rw [e]
 congr 1
 have h1:(b &&& 2147483648) / 2 ^ 31=b / 2 ^ 31 &&& 1:=Nat.and_div_two_pow;have h2:(b &&& 2147483648) % 2 ^ 31=0:=by rw [Nat.and_mod_two_pow,show 2147483648 % 2 ^ 31=0 from rfl,Nat.and_zero]
 have h3:b / 2 ^ 31 &&& 1=b / 2 ^ 31:=by rw [Nat.and_one_is_mod];omega
 rw [h3] at h1;omega
theorem ju9 (x y:Nat) (hx:x<2147483648) (hy:y<2):bits .or .u32 (x:Int) ((y*2147483648:Nat):Int)=((x+y*2147483648:Nat):Int):=by
 have e:=u32_or_nat x (y*2147483648) (by omega) (by omega);rw [e]
 congr 1
 rw [Nat.or_comm,Nat.mul_comm y,show (2147483648:Nat)=2 ^ 31 from rfl,← Nat.two_pow_add_eq_or_of_lt (by exact hx),Nat.add_comm]
def wsF (x s:Nat):Nat:=x % 2147483648+s / 2147483648*2147483648
theorem wsF_lt (x s:Nat) (hs:s<4294967296):wsF x s<4294967296:=by unfold wsF;omega
theorem jdP (x s:Nat) (w:World) (hx:x<4294967296) (hs:s<4294967296):Calls Tryz.prog 135 #[.float .f32 x,.float .f32 s] w fun e w'=>e=.returned (.float .f32 (wsF x s))∧w'=w:=by
 have b1:=jgT x hx;have b2:=jt9 s hs;have b3:=ju9 (x % 2147483648) (s / 2147483648) (Nat.mod_lt _ (by decide)) (by omega);obtain ⟨R,hR⟩ : ∃ R:Nat,R=wsF x s:=⟨_,rfl⟩
 rw [show x % 2147483648+s / 2147483648*2147483648=R from by rw [hR];rfl] at b3;rw [← hR];clear hR;obtain ⟨p,hp⟩ : ∃ p:Nat,p=x % 2147483648:=⟨_,rfl⟩
 obtain ⟨t,ht⟩ : ∃ t:Nat,t=s / 2147483648*2147483648:=⟨_,rfl⟩
 rw [← hp] at b1 b3;rw [← ht] at b2 b3;clear hp ht hx hs;go_enter Tryz.func135,Tryz.ntmps135;go_wp2;go_ret;exact ⟨rfl,rfl⟩
def qT (a:Nat):Nat:=oD (floatBits .quo .f32 (oD (floatBits .sub .f32 (exW (oD (floatBits .add .f32 a a))) 1065353216)) (oD (floatBits .add .f32 (exW (oD (floatBits .add .f32 a a))) 1065353216)))
def thI (b:Nat):Int:=if 2139095040<b % 2147483648 then 2143289344 else if (FloatKind.f32.format.order (absF b) 1092616192==some .gt)=true then (wsF 1065353216 b:Int) else (wsF (qT (absF b)) b:Int)
theorem jrO (x y:Nat) (h:(FloatKind.f32.format.read x).isNaN=true):floatBits .sub .f32 x y=none:=by
 show (Option.map _ (Ieee.Datum.sum (FloatKind.f32.format.read x) (FloatKind.f32.format.read y).opposite))=none;rw [jqD,jnz _ _ h];rfl
theorem jrP (x y:Nat) (h:(FloatKind.f32.format.read x).isNaN=true):floatBits .quo .f32 x y=none:=by
 show (Option.map _ (Ieee.Datum.quotient _ (FloatKind.f32.format.read x) (FloatKind.f32.format.read y)))=none
 cases hx:FloatKind.f32.format.read x with
 | nan s t=>cases FloatKind.f32.format.read y <;> rfl
 | number s m i=>rw [hx] at h;cases h
 | infinity s=>rw [hx] at h;cases h
theorem jil (op:BinOp) (x y:Nat) (w:World) (h:floatBits op .f32 x y=none):(FloatKind.f32.format.read (jdv op .f32 x y w)).isNaN=true:=by
 unfold jdv;rw [h];exact jsn x y _
theorem jva (b s:Nat) (hs:s<4294967296) (w1 w2 w3 w4:World) (h:(FloatKind.f32.format.read b).isNaN=true) :
    tob (wsF (jdv .quo .f32 (jdv .sub .f32 (exW (jdv .add .f32 b b w1)) 1065353216 w2) (jdv .add .f32 (exW (jdv .add .f32 b b w1)) 1065353216 w3) w4) s)=2143289344:=by
     have h1:=jil .add b b w1 (jt5 b b h);rw [jt6 _ h1];have h2:=jil .sub (jdv .add .f32 b b w1) 1065353216 w2 (jrO _ _ h1);have h3:=jil .quo (jdv .sub .f32 (jdv .add .f32 b b w1) 1065353216 w2) (jdv .add .f32 (jdv .add .f32 b b w1) 1065353216 w3) w4 (jrP _ _ h2);have hl:=je3 .quo (jdv .sub .f32 (jdv .add .f32 b b w1) 1065353216 w2) (jdv .add .f32 (jdv .add .f32 b b w1) 1065353216 w3) w4;generalize jdv .quo .f32 (jdv .sub .f32 (jdv .add .f32 b b w1) 1065353216 w2) (jdv .add .f32 (jdv .add .f32 b b w1) 1065353216 w3) w4=v at h3 hl ⊢;rw [jbs v hl,decide_eq_true_eq] at h3;rw [jfO _ (wsF_lt v s hs)];unfold wsF;rw [if_pos (by omega)]
theorem jmM (b:Nat) (hn:b % 2147483648≤2139095040) (h:(FloatKind.f32.format.order (absF b) 1092616192==some .gt)=false):absF b≤1092616192:=by
 unfold absF at *;unfold Ieee.Format.order at h;rw [jdm _ hn,jdm 1092616192 (by decide)] at h;apply Decidable.byContradiction;intro hc
 by_cases hf:b % 2147483648<2139095040
 ·rw [jd2 false _ _ hf (by decide),if_neg (by decide),jbM (by exact_mod_cast jeG _ _ (by omega))] at h;exact absurd h (by decide)
 ·rw [show b % 2147483648=2139095040 from by omega] at h;exact absurd h (by decide +kernel)
theorem jvb (b:Nat) (w:World) (hb:b<4294967296):Calls Tryz.prog 85 #[.float .f32 b] w fun e w'=>∃ r n,Hid (tob r=thI b∧r<4294967296)∧e=.returned (.float .f32 r)∧w'=w.drewN n:=by
 have AB:Hid (∀ w,Calls Tryz.prog 79 #[.float .f32 b] w fun e w'=>e=.returned (.float .f32 (absF b))∧w'=w):=fun w=>jcS b w hb
 cases hg:(FloatKind.f32.format.order (absF b) 1092616192==some .gt) with
 | true =>
  have hn:b % 2147483648≤2139095040:=by
   apply Decidable.byContradiction;intro hc;unfold Ieee.Format.order at hg;have hx:(FloatKind.f32.format.read (absF b)).isNaN=true:=by rw [jbs _ (absF_lt b)];unfold absF;exact decide_eq_true (by omega)
   have ho:(FloatKind.f32.format.read (absF b)).order (FloatKind.f32.format.read 1092616192)=none:=(jl2 _ _).2 (.inl hx);rw [ho] at hg;exact absurd hg (by decide)
  have HT:Hid (tob (wsF 1065353216 b)=thI b):=by
   show tob (wsF 1065353216 b)=thI b;unfold thI;rw [if_neg (by omega),if_pos hg,jso _ (wsF_lt _ _ hb) (by unfold wsF;omega)]
  have WS:Hid (∀ w,Calls Tryz.prog 135 #[.float .f32 1065353216,.float .f32 b] w fun e w'=>e=.returned (.float .f32 (wsF 1065353216 b))∧w'=w):=fun w=>jdP _ _ w (by decide) hb;have HB:Hid (wsF 1065353216 b<4294967296):=wsF_lt _ _ hb;clear hb hn;go_enter Tryz.func85,Tryz.ntmps85;go_wp2_with (first | (go_at_call 79;refine (AB.out _).mono ?_;rintro e w' ⟨rfl,rfl⟩) | (go_at_call 135;refine (WS.out _).mono ?_;rintro e w' ⟨rfl,rfl⟩) | fail);go_ret;exact ⟨_,0,⟨HT.out,HB.out⟩,rfl,rfl⟩
 | false =>
  by_cases hn:b % 2147483648≤2139095040
  ·obtain ⟨d,s1,s2,q,k1,k2,k3,k4,k5⟩:=jt8 (absF b) (jmM b hn hg);have r1:∀ t w,(binOp .add t (.float .f32 (absF b)) (.float .f32 (absF b))).run Tryz.prog w=.ok (.float .f32 d) w:=fun t w=>run_float_arith w .add t .f32 _ _ _ k1;have r2:∀ t w,(binOp .sub t (.float .f32 (exW d)) (.float .f32 1065353216)).run Tryz.prog w=.ok (.float .f32 s1) w:=fun t w=>run_float_arith w .sub t .f32 _ _ _ k3;have r3:∀ t w,(binOp .add t (.float .f32 (exW d)) (.float .f32 1065353216)).run Tryz.prog w=.ok (.float .f32 s2) w:=fun t w=>run_float_arith w .add t .f32 _ _ _ k4;have r4:∀ t w,(binOp .quo t (.float .f32 s1) (.float .f32 s2)).run Tryz.prog w=.ok (.float .f32 q) w:=fun t w=>run_float_arith w .quo t .f32 _ _ _ k5;have hq:qT (absF b)=q:=by unfold qT;rw [k1];show oD (floatBits .quo .f32 (oD (floatBits .sub .f32 (exW d) 1065353216)) (oD (floatBits .add .f32 (exW d) 1065353216)))=q;rw [k3,k4];show oD (floatBits .quo .f32 s1 s2)=q;rw [k5];rfl
   obtain ⟨q1,q2⟩:=jrJ k5
   have HT:Hid (tob (wsF q b)=thI b):=by
    show tob (wsF q b)=thI b;unfold thI;rw [if_neg (by omega),if_neg (by rw [hg];decide),hq,jso _ (wsF_lt _ _ hb) (by unfold wsF;omega)]
   have WS:Hid (∀ w,Calls Tryz.prog 135 #[.float .f32 q,.float .f32 b] w fun e w'=>e=.returned (.float .f32 (wsF q b))∧w'=w):=fun w=>jdP _ _ w q2 hb;have EX:Hid (∀ w,Calls Tryz.prog 83 #[.float .f32 d] w fun e w'=>e=.returned (.float .f32 (exW d))∧∃ n,w'=w.drewN n):=fun w=>jrI d w (by omega);have HB:Hid (wsF q b<4294967296):=wsF_lt _ _ hb;clear hb hn k1 k2 k3 k4 k5 hq q1 q2;go_enter Tryz.func85,Tryz.ntmps85;go_wp2_with (first | (go_at_call 79;refine (AB.out _).mono ?_;rintro e w' ⟨rfl,rfl⟩) | (go_at_call 83;refine (EX.out _).mono ?_;rintro e w' ⟨rfl,n,rfl⟩) | (go_at_call 135;refine (WS.out _).mono ?_;rintro e w' ⟨rfl,rfl⟩) | fail);go_ret;exact ⟨_,_,⟨HT.out,HB.out⟩,rfl,rfl⟩
  ·have HT:Hid (thI b=2143289344):=by show thI b=_;unfold thI;rw [if_pos (by omega)]
   have HN:Hid ((FloatKind.f32.format.read (absF b)).isNaN=true):=by show (FloatKind.f32.format.read (absF b)).isNaN=true;rw [jbs _ (absF_lt b)];unfold absF;exact decide_eq_true (by omega)
   have HB:Hid (b<4294967296):=hb;clear hb hn;go_enter Tryz.func85,Tryz.ntmps85;go_wp2_with (first | (go_at_call 79;refine (AB.out _).mono ?_;rintro e w' ⟨rfl,rfl⟩) | (go_at_call 83;refine (jrI _ _ (je3 _ _ _ _)).mono ?_;rintro e w' ⟨rfl,n,rfl⟩) | (go_at_call 135;refine (jdP _ _ _ (je3 _ _ _ _) HB.out).mono ?_;rintro e w' ⟨rfl,rfl⟩) | fail);go_ret;exact ⟨_,_,⟨(jva _ _ HB.out _ _ _ _ HN.out).trans HT.out.symm,wsF_lt _ _ HB.out⟩,rfl,rfl⟩
end Go.Proofs.YteigfipgmghgmaaGreatDoor.Nu
namespace Go.Proofs.YteigfipgmghgmaaGreatDoor.Nu
open Go.RowKit Mo
attribute [local go_sem] jbg jbh jbq jbB jcf
theorem jrQ (b:Nat) (w:World) (hb:b<4294967296):Calls Tryz.prog 49 #[.string ⟨#[84,97,110,104]⟩,.float .f32 b] w fun e w'=>∃ n,e=.returned (.tuple #[.int .i64 (thI b),.int .i64 0])∧w'=w.drewN n:=by
 have SG:Hid (∀ w,Calls Tryz.prog 85 #[.float .f32 b] w fun e w'=>∃ r n,Hid (tob r=thI b∧r<4294967296)∧e=.returned (.float .f32 r)∧w'=w.drewN n):=fun w=>jvb b w hb;clear hb;go_enter Tryz.func49,Tryz.ntmps49;go_wp2_with (first | (go_at_call 85;refine (SG.out _).mono ?_;rintro e w' ⟨r,n,hr,rfl,rfl⟩) | (go_at_call 62;refine (jbo _ _ hr.out.2).mono ?_;rintro e w' ⟨rfl,rfl⟩) | fail);go_ret2;exact ⟨_,congrArg (fun z=>Ending.returned (Value.tuple #[.int .i64 z,.int .i64 0])) hr.out.1,rfl⟩
end Go.Proofs.YteigfipgmghgmaaGreatDoor.Nu
namespace Go.Proofs.YteigfipgmghgmaaGreatDoor.Nu
open Go.RowKit Mo
def Ans (a e:Int) (w:World) (en:Ending) (w':World):Prop:=en=.returned (.tuple #[.int .i64 a,.int .i64 e])∧∃ n,w'=w.drewN n
theorem unaryF5 (x:Int) (w:World) (hx:chk 1 x=true):Calls Tryz.prog 29 #[.string ⟨#[83,113,114,116]⟩,.int .i64 1,.int .i64 x] w (Ans (sqB (fb x)) 0 w):=by
 unfold Ans;go_enter Tryz.func29,Tryz.ntmps29;go_wp2_with (first | (go_at_call 45;refine (jah _ _ _).mono ?_;rintro e w' ⟨rfl,rfl⟩) | (go_at_call 50;refine (jaH _ _).mono ?_;rintro e w' ⟨rfl,rfl⟩) | (go_at_call 49;refine (jrL _ _ (jcO _)).mono ?_;rintro e w' ⟨n,rfl,rfl⟩) | fail);go_ret2;exact ⟨rfl,_,rfl⟩
theorem unaryF6 (x:Int) (w:World) (hx:chk 1 x=true):Calls Tryz.prog 29 #[.string ⟨#[70,108,111,111,114]⟩,.int .i64 1,.int .i64 x] w (Ans (flB (fb x)) 0 w):=by
 unfold Ans;go_enter Tryz.func29,Tryz.ntmps29;go_wp2_with (first | (go_at_call 45;refine (jah _ _ _).mono ?_;rintro e w' ⟨rfl,rfl⟩) | (go_at_call 50;refine (jaH _ _).mono ?_;rintro e w' ⟨rfl,rfl⟩) | (go_at_call 49;refine (jrH _ _ (jcO _)).mono ?_;rintro e w' ⟨n,rfl,rfl⟩) | fail);go_ret2;exact ⟨rfl,_,rfl⟩
theorem unaryF7 (x:Int) (w:World) (hx:chk 1 x=true):Calls Tryz.prog 29 #[.string ⟨#[69,120,112]⟩,.int .i64 1,.int .i64 x] w (Ans (tob (exW (fb x))) 0 w):=by
 unfold Ans;go_enter Tryz.func29,Tryz.ntmps29;go_wp2_with (first | (go_at_call 45;refine (jah _ _ _).mono ?_;rintro e w' ⟨rfl,rfl⟩) | (go_at_call 50;refine (jaH _ _).mono ?_;rintro e w' ⟨rfl,rfl⟩) | (go_at_call 49;refine (jrM _ _ (jcO _)).mono ?_;rintro e w' ⟨n,rfl,rfl⟩) | fail);go_ret2;exact ⟨rfl,_,rfl⟩
theorem unaryF8 (x:Int) (w:World) (hx:chk 1 x=true):Calls Tryz.prog 29 #[.string ⟨#[83,105,103,109,111,105,100]⟩,.int .i64 1,.int .i64 x] w (Ans (sgI (exW (negF (fb x)))) 0 w):=by
 unfold Ans;go_enter Tryz.func29,Tryz.ntmps29;go_wp2_with (first | (go_at_call 45;refine (jah _ _ _).mono ?_;rintro e w' ⟨rfl,rfl⟩) | (go_at_call 50;refine (jaH _ _).mono ?_;rintro e w' ⟨rfl,rfl⟩) | (go_at_call 49;refine (jrN _ _ (jcO _)).mono ?_;rintro e w' ⟨n,rfl,rfl⟩) | fail);go_ret2;exact ⟨rfl,_,rfl⟩
theorem unaryF9 (x:Int) (w:World) (hx:chk 1 x=true):Calls Tryz.prog 29 #[.string ⟨#[84,97,110,104]⟩,.int .i64 1,.int .i64 x] w (Ans (thI (fb x)) 0 w):=by
 unfold Ans;go_enter Tryz.func29,Tryz.ntmps29;go_wp2_with (first | (go_at_call 45;refine (jah _ _ _).mono ?_;rintro e w' ⟨rfl,rfl⟩) | (go_at_call 50;refine (jaH _ _).mono ?_;rintro e w' ⟨rfl,rfl⟩) | (go_at_call 49;refine (jrQ _ _ (jcO _)).mono ?_;rintro e w' ⟨n,rfl,rfl⟩) | fail);go_ret2;exact ⟨rfl,_,rfl⟩
end Go.Proofs.YteigfipgmghgmaaGreatDoor.Nu
