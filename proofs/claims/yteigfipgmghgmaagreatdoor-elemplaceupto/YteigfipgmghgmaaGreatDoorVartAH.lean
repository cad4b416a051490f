/- A part. -/
import Derived.Test.YteigfipgmghgmaaGreatDoorRows
import Derived.WalkKit
import Derived.WalkSpells
import Derived.WalkLawsBesides
import Derived.Laws.FloatArith
import Derived.Laws.BitsAllLaws
set_option maxHeartbeats 400000
namespace Go.Proofs.YteigfipgmghgmaaGreatDoor
open Go.RowKit
theorem jhs (a:Nat) (h:a<4294967296):a &&& 18446744071562067967=a % 2147483648:=by
 have h1:a &&& 4294967295=a:=by
  have:=Nat.and_two_pow_sub_one_eq_mod a 32;simp only [Nat.reducePow,Nat.reduceSub] at this;rw [this];exact Nat.mod_eq_of_lt h
 have h2:a % 2147483648=a &&& 2147483647:=by
  have:=Nat.and_two_pow_sub_one_eq_mod a 31;simp only [Nat.reducePow,Nat.reduceSub] at this;exact this.symm
 rw [h2]
 conv=>lhs;rw [← h1]
 rw [Nat.and_assoc];have e:(4294967295:Nat) &&& 18446744071562067967=2147483647:=by decide
 rw [e]
theorem jbS (n:Int):IntKind.i64.wrap n=wrap64 n:=by
 simp [IntKind.wrap,IntKind.bits,IntKind.signed,wrap64];split <;> omega
theorem jeX (x:Int) (h0:0≤x) (h:x<4294967296):bits .andNot .i64 x 2147483648=x % 2147483648:=by
 obtain ⟨a,rfl⟩:=Int.eq_ofNat_of_zero_le h0;have ha:a<4294967296:=by omega
 show IntKind.i64.wrap ((BitVec.ofInt 64 (a:Int) &&& ~~~BitVec.ofInt 64 (2147483648:Int)).toNat:Int)=_;have e1:(BitVec.ofInt 64 (a:Int)).toNat=a:=ofInt_u64 a (by omega);have e2:(~~~BitVec.ofInt 64 (2147483648:Int)).toNat=18446744071562067967:=by decide
 rw [BitVec.toNat_and,e1,e2,jhs a ha];have hm:a % 2147483648<2147483648:=Nat.mod_lt _ (by decide);have:((a % 2147483648:Nat):Int)=(a:Int) % 2147483648:=by omega
 rw [this];rw [jbS];unfold wrap64;omega
def chk (t x:Int):Bool :=
 if t=1 then decide (0≤x∧x<4294967296∧(x=2143289344∨x % 2147483648≤2139095040))
 else if t=6 then decide (-2147483648≤x∧x≤2147483647)
 else if t=7 then true
 else if t=9 then decide (x=0∨x=1)
 else false
theorem chk6 (x:Int):(x==wrap64 (wrap32 x))=decide (-2147483648≤x∧x≤2147483647):=by
 rw [Bool.eq_iff_iff];simp only [beq_iff_eq,decide_eq_true_eq];unfold wrap64 wrap32;omega
theorem jfE (t x:Int) (h:t=1):chk t x=decide (0≤x∧x<4294967296∧(x=2143289344∨x % 2147483648≤2139095040)):=by
 simp [chk,h]
open Go.RowKit
theorem jfF (t x:Int) (w:World):Calls Tryz.prog 45 #[.int .i64 t,.int .i64 x] w fun e w'=>e=.returned (.bool (chk t x))∧w'=w:=by
 by_cases h1:t=1
 ·have c : chk t x = (decide (0 ≤ x) && (decide (x < 4294967296) && (x == 2143289344 || decide (x % 2147483648 ≤ 2139095040)))) := by
    rw [jfE t x h1,Bool.eq_iff_iff];simp
  have h1':(t==1)=true:=by simpa using h1
  clear h1
  by_cases hx0:0≤x
  ·by_cases hx1:x<4294967296
   ·have a:=jeX x hx0 hx1
    by_cases hx2:x=2143289344
    ·have c':chk t x=true:=by rw [c];simp [hx2]
     rw [c'];clear c c';subst hx2;go_enter Tryz.func45,Tryz.ntmps45;go_wp2;go_ret;exact ⟨rfl,rfl⟩
    ·have c':chk t x=decide (x % 2147483648≤2139095040):=by rw [c];simp [hx0,hx1,hx2]
     rw [c'];clear c c';have hx2':(x==2143289344)=false:=by simpa using hx2
     clear hx2;go_enter Tryz.func45,Tryz.ntmps45;go_wp2;go_ret;exact ⟨rfl,rfl⟩
   ·have c':chk t x=false:=by rw [c];simp [hx1]
    rw [c'];clear c c';go_enter Tryz.func45,Tryz.ntmps45;go_wp2;go_ret;exact ⟨rfl,rfl⟩
  ·have c':chk t x=false:=by rw [c];simp [hx0]
   rw [c'];clear c c';go_enter Tryz.func45,Tryz.ntmps45;go_wp2;go_ret;exact ⟨rfl,rfl⟩
 ·have h1':(t==1)=false:=by simpa using h1
  by_cases h6:t=6
  ·have h6':(t==6)=true:=by simpa using h6
   have c:chk t x=(x==wrap64 (wrap32 x)):=by rw [chk6];simp [chk,h6]
   rw [c];clear c h1 h6;go_enter Tryz.func45,Tryz.ntmps45;go_wp2;go_ret;exact ⟨rfl,rfl⟩
  ·have h6':(t==6)=false:=by simpa using h6
   by_cases h7:t=7
   ·have h7':(t==7)=true:=by simpa using h7
    have c:chk t x=true:=by simp [chk,h7]
    rw [c];clear c h1 h6 h7;go_enter Tryz.func45,Tryz.ntmps45;go_wp2;go_ret;exact ⟨rfl,rfl⟩
   ·have h7':(t==7)=false:=by simpa using h7
    by_cases h9:t=9
    ·have h9':(t==9)=true:=by simpa using h9
     have c:chk t x=(x==0||x==1):=by rw [Bool.eq_iff_iff];simp [chk,h9]
     by_cases hx0:x=0
     ·have c':chk t x=true:=by rw [c];simp [hx0]
      rw [c'];clear c c' h1 h6 h7 h9;subst hx0;go_enter Tryz.func45,Tryz.ntmps45;go_wp2;go_ret;exact ⟨rfl,rfl⟩
     ·have hx0':(x==0)=false:=by simpa using hx0
      rw [c];clear c h1 h6 h7 h9 hx0;go_enter Tryz.func45,Tryz.ntmps45;go_wp2;go_ret;exact ⟨by simp [hx0'],rfl⟩
    ·have h9':(t==9)=false:=by simpa using h9
     have c:chk t x=false:=by simp [chk,h1,h6,h7,h9]
     rw [c];clear c h1 h6 h7 h9;go_enter Tryz.func45,Tryz.ntmps45;go_wp2;go_ret;exact ⟨rfl,rfl⟩
end Go.Proofs.YteigfipgmghgmaaGreatDoor
