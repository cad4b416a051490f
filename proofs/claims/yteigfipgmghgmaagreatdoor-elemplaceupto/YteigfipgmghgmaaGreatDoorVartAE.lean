/- A part. -/
import Derived.Test.YteigfipgmghgmaaGreatDoorVartAD
import Derived.Lib.Bytealg
import Derived.Lib.IndexLaws
import Derived.OwnWalk
set_option maxHeartbeats 1600000
set_option maxRecDepth 100000
namespace Go.Proofs.YteigfipgmghgmaaGreatDoor
open Go.RowKit
theorem jmY (s:ByteArray) (w:World) :
    Calls Tryz.prog 176 #[.string s,.int .u8 44] w fun e w'=>e=.returned (.int .i64 (Lib.indexByte s.data.toList 44))∧w.grownBy w' none:=by
     go_enter Tryz.func176,Tryz.ntmps176;go_wp2;rw [run_callFunc_extern Tryz.func182 (by kernel_rfl) (by kernel_rfl) (by kernel_rfl) (e:=Extern.BytealgIndexByte.indexByte) (by kernel_rfl),Lib.run_indexByteString];simp only [Result.andThen];rw [Oper.upon_value];go_wp2;go_ret;exact ⟨rfl,jad _⟩
theorem jaj (s:ByteArray):s.toList=s.data.toList:=ByteArray.toList_eq s
theorem jjH (s:ByteArray) (w:World) :
    Calls Tryz.prog 168 #[.string s,.string ⟨#[44]⟩] w fun e w'=>e=.returned (.int .i64 (Lib.indexByte s.data.toList 44))∧w.grownBy w' none:=by
     have CM:=jac (fun wx=>jmY s wx)
     by_cases h:(([44]:List UInt8)==s.toList)=true
     ·go_enter Tryz.func168,Tryz.ntmps168;go_wp2_with fail;go_ret;refine ⟨?_,jad _⟩;have h1:[44]=s.data.toList:=by rw [← jaj];simpa using h
      rw [← h1]
      rfl
     ·have h':(([44]:List UInt8)==s.toList)=false:=by simpa using h
      clear h;go_enter Tryz.func168,Tryz.ntmps168;go_wp2_with fail;refine (CM.out w).mono ?_;rintro e w1 ⟨rfl,hg⟩;go_wp2;go_ret;exact ⟨rfl,hg⟩
def juk (s:ByteArray) (e:Ending):Prop :=
 (∃ i:Nat,i<s.size∧s.data.toList[i]?=some 44∧(∀ k,k<i→s.data.toList[k]?≠some 44)∧e=.returned (.tuple #[.string (s.extract 0 i),.string (s.extract (i+1) s.size),.bool true])) ∨
 ((∀ k:Nat,s.data.toList[k]?≠some 44)∧e=.returned (.tuple #[.string s,.string ⟨#[]⟩,.bool false]))
theorem jp4 (s:ByteArray) (w:World) (hs:s.size≤9223372036854775807) :
    Calls Tryz.prog 157 #[.string s,.string ⟨#[44]⟩] w fun e w'=>juk s e∧w.grownBy w' none:=by
     have IC:=jac (fun wx=>jjH s wx);have h1:=Lib.indexByte_ge s.data.toList 44
     by_cases hi:Lib.indexByte s.data.toList 44 = -1
     ·have HI:=jac hi;rw [hi] at IC;clear hi h1;go_enter Tryz.func157,Tryz.ntmps157;go_wp2_with fail;refine (IC.out _).mono ?_;rintro e w1 ⟨rfl,hg⟩;go_wp2;go_ret3;exact ⟨Or.inr ⟨Lib.indexByte_none HI.out,rfl⟩,hg⟩
     ·obtain ⟨i,hi'⟩ : ∃ i:Nat,Lib.indexByte s.data.toList 44=i:=⟨(Lib.indexByte s.data.toList 44).toNat,by omega⟩
      obtain ⟨p1,p2⟩:=Lib.indexByte_some hi'
      have hlt:i<s.size:=by
       have:=(List.getElem?_eq_some_iff.1 p1).1;simpa using this
      have P1:=jac p1;have P2:=jac p2;rw [hi'] at IC;clear hi hi' h1 p1 p2;go_enter Tryz.func157,Tryz.ntmps157;go_wp2_with fail;refine (IC.out _).mono ?_;rintro e w1 ⟨rfl,hg⟩;go_wp2;go_region
      all_goals go_wp2
      all_goals go_ret3
      all_goals exact ⟨Or.inl ⟨i,hlt,P1.out,P2.out,rfl⟩,jaf hg⟩
theorem jsy (s:ByteArray) (w:World) (hs:s.size≤9223372036854775807) :
    Calls Tryz.prog 128 #[.string s,.string ⟨#[44]⟩] w fun e w'=>juk s e∧w.grownBy w' none:=by
     have LC:=jac (jp4 s w hs);clear hs;go_enter Tryz.func128,Tryz.ntmps128;go_wp2_with fail;refine LC.out.mono ?_;rintro e w1 ⟨hc,hg⟩;have HC:=jac hc
     rcases hc with ⟨i,-,-,-,rfl⟩ | ⟨-,rfl⟩
     ·go_wp2;go_ret3;exact ⟨HC.out,hg⟩
     ·go_wp2;go_ret3;exact ⟨HC.out,hg⟩
end Go.Proofs.YteigfipgmghgmaaGreatDoor
