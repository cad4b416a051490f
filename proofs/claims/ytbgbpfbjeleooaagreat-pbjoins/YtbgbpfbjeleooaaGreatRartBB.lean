/- A part. -/
import Derived.Test.YtbgbpfbjeleooaaGreatRartAZ
import Derived.Test.YtbgbpfbjeleooaaGreatRartBA
import Derived.Lib.AppendStr
set_option maxHeartbeats 3200000
set_option maxRecDepth 100000
namespace Go.Proofs.YtbgbpfbjeleooaaGreat.Wr
open Go.RowKit
theorem empty_of {s:ByteArray} (h:s.size=0):s=⟨#[]⟩:=ByteArray.ext (Array.eq_empty_of_size_eq_zero h)
theorem jcj {a b:Bool} (h:a=b):Ending.returned (.bool a)=.returned (.bool b):=by rw [h]
theorem jgk {k:IntKind} {a b:Int} (h:a=b):Ending.returned (.int k a)=.returned (.int k b):=by rw [h]
theorem emp (b:ByteArray):b.toList.isEmpty=decide (b.size=0):=by
 rw [ByteArray.toList_eq];have e:b.data.toList.length=b.size:=Array.length_toList;rw [← e]
 cases b.data.toList <;> simp
theorem joe {num u:Int} {b:ByteArray} (h1:1≤num) (h2:num≤536870911):fok ⟨num,0,u,b⟩=decide (b.size=0):=by simp [fok,h1,h2]
theorem jof {num u:Int} {b:ByteArray} (h1:1≤num) (h2:num≤536870911):fok ⟨num,1,u,b⟩=decide (b.size=0):=by simp [fok,h1,h2]
theorem jny {num u:Int} {b:ByteArray} (h1:1≤num) (h2:num≤536870911):fok ⟨num,5,u,b⟩=decide (b.size=0∧u<4294967296):=by simp [fok,h1,h2]
theorem jog {num u:Int} {b:ByteArray} (h1:1≤num) (h2:num≤536870911):fok ⟨num,2,u,b⟩=decide (u=0):=by simp [fok,h1,h2]
theorem jh9 (x:Fld) (w:World) (hx:FldIn x) :
    Calls Tryz.prog 128 #[jcH x] w fun e w'=>e=.returned (.bool (fok x))∧w.grownBy w' none:=by
     obtain ⟨num,kind,u,b⟩:=x;obtain ⟨h1,h2,h3,h4,h5,h6,h7⟩:=hx;simp only at h1 h2 h3 h4 h5 h6 h7;simp only [jcH]
     by_cases hn:1≤num∧num≤536870911
     ·obtain ⟨hn1,hn2⟩:=hn
      by_cases k0:kind=0
      ·subst k0
       by_cases he:b.size=0
       ·have hq:b.toList.isEmpty=true:=by rw [emp];simp only [he,decide_true]
        go_enter Tryz.func128,Tryz.ntmps128;go_wp2;go_ret;exact ⟨jcj (by rw [joe hn1 hn2,decide_eq_true he]),jab _ _⟩
       ·have hq:b.toList.isEmpty=false:=by rw [emp];exact decide_eq_false he
        go_enter Tryz.func128,Tryz.ntmps128;go_wp2;go_ret;exact ⟨jcj (by rw [joe hn1 hn2,decide_eq_false he]),jab _ _⟩
      by_cases k1:kind=1
      ·subst k1
       by_cases he:b.size=0
       ·have hq:b.toList.isEmpty=true:=by rw [emp];simp only [he,decide_true]
        go_enter Tryz.func128,Tryz.ntmps128;go_wp2;go_ret;exact ⟨jcj (by rw [jof hn1 hn2,decide_eq_true he]),jab _ _⟩
       ·have hq:b.toList.isEmpty=false:=by rw [emp];exact decide_eq_false he
        go_enter Tryz.func128,Tryz.ntmps128;go_wp2;go_ret;exact ⟨jcj (by rw [jof hn1 hn2,decide_eq_false he]),jab _ _⟩
      by_cases k5:kind=5
      ·subst k5
       by_cases he:b.size=0
       ·have hq:b.toList.isEmpty=true:=by rw [emp];simp only [he,decide_true]
        by_cases hu:u<4294967296
        ·go_enter Tryz.func128,Tryz.ntmps128;go_wp2;go_ret;exact ⟨jcj (by rw [jny hn1 hn2,decide_eq_true ⟨he,hu⟩]),jab _ _⟩
        ·go_enter Tryz.func128,Tryz.ntmps128;go_wp2;go_ret;exact ⟨jcj (by rw [jny hn1 hn2];symm;exact decide_eq_false (fun h=>by omega)),jab _ _⟩
       ·have hq:b.toList.isEmpty=false:=by rw [emp];exact decide_eq_false he
        go_enter Tryz.func128,Tryz.ntmps128;go_wp2;go_ret;exact ⟨jcj (by rw [jny hn1 hn2,decide_eq_false (fun h=>he h.1)]),jab _ _⟩
      by_cases k2:kind=2
      ·subst k2
       by_cases hu:u=0
       ·subst hu;go_enter Tryz.func128,Tryz.ntmps128;go_wp2;go_ret;exact ⟨jcj (by rw [jog hn1 hn2];rfl),jab _ _⟩
       ·have hq:(u==0)=false:=by rw [beq_eq_false_iff_ne];exact hu
        go_enter Tryz.func128,Tryz.ntmps128;go_wp2;go_ret;exact ⟨jcj (by rw [jog hn1 hn2,decide_eq_false hu]),jab _ _⟩
      have hf:fok ⟨num,kind,u,b⟩=false:=by simp [fok,k0,k1,k2,k5]
      have j0:(kind==0)=false:=by rw [beq_eq_false_iff_ne];exact k0
      have j1:(kind==1)=false:=by rw [beq_eq_false_iff_ne];exact k1
      have j2:(kind==2)=false:=by rw [beq_eq_false_iff_ne];exact k2
      have j5:(kind==5)=false:=by rw [beq_eq_false_iff_ne];exact k5
      go_enter Tryz.func128,Tryz.ntmps128;go_wp2;go_ret;exact ⟨jcj (by rw [hf]),jab _ _⟩
     ·have hf:fok ⟨num,kind,u,b⟩=false:=by simp [fok];omega
      by_cases hn1:num<1
      ·go_enter Tryz.func128,Tryz.ntmps128;go_wp2;go_ret;exact ⟨jcj (by first | rfl | exact hf.symm),jab _ _⟩
      ·have hn2:536870911<num:=by omega
       go_enter Tryz.func128,Tryz.ntmps128;go_wp2;go_ret;exact ⟨jcj (by first | rfl | exact hf.symm),jab _ _⟩
theorem joh (n k:Nat) (hk:k<8) (hn:n≤536870911):bits .or .u64 ((n:Int)*8) (k:Int)=((n*8+k:Nat):Int):=by
 have h:=bits_or_u64_nat (n*8) k (by omega) (by omega);rw [show (((n*8:Nat)):Int)=(n:Int)*8 by omega] at h;rw [h]
 congr 1
 rw [Nat.mul_comm,show (8:Nat)=2 ^ 3 from rfl,Nat.two_pow_add_eq_or_of_lt (by omega)]
theorem jk7 (x:Fld) (w:World) (hx:fok x=true) :
    Calls Tryz.prog 150 #[jcH x] w fun e w'=>e=.returned (.int .u64 (jc9 x))∧w.grownBy w' none:=by
     have hn:=jiQ hx;have hk:=jdK hx;obtain ⟨num,kind,u,b⟩:=x;simp only [jcH,jc9] at hn hk ⊢;obtain ⟨n,rfl⟩ : ∃ n:Nat,num=n:=⟨num.toNat,by omega⟩
     obtain ⟨k,rfl⟩ : ∃ k:Nat,kind=k:=⟨kind.toNat,by omega⟩
     have hk8:k<8:=by omega
     have HO:=jac (joh n k hk8 (by omega));clear hk hx;go_enter Tryz.func150,Tryz.ntmps150;go_wp2;go_ret;exact ⟨jgk (by rw [HO.out];simp),jab _ _⟩
theorem jnz (u k n:Nat) (h:k<n):lo (u / 256 ^ k) (n - k)=u / 256 ^ k % 256::lo (u / 256 ^ (k+1)) (n - (k+1)):=by
 obtain ⟨m,rfl⟩ : ∃ m,n=k+1+m:=⟨n - (k+1),by omega⟩
 rw [show k+1+m - k=m+1 by omega,show k+1+m - (k+1)=m by omega,lo,Nat.div_div_eq_div_mul,Nat.pow_succ]
theorem jmk (u k:Nat):(u:Int) / 2 ^ (8*k) % 256=((u / 256 ^ k % 256:Nat):Int):=by
 have e:((2:Int) ^ (8*k))=((256 ^ k:Nat):Int):=by rw [← jhe];simp
 rw [e];omega
end Go.Proofs.YtbgbpfbjeleooaaGreat.Wr
