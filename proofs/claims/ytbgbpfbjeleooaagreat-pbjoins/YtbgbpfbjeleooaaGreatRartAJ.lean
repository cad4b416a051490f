/- A part. -/
import Derived.Test.YtbgbpfbjeleooaaGreatRartAA
import Derived.Test.YtbgbpfbjeleooaaGreatRartAB
import Derived.WalkLawsBesides
set_option maxHeartbeats 1600000
set_option maxRecDepth 100000
namespace Go.Proofs.YtbgbpfbjeleooaaGreat.Wr
open Go.RowKit
def Cur (w:World) (b:Nat) (s:ByteArray) (p:Nat):Prop :=
 w.cell? ⟨b,0,none⟩=some (.string s)∧w.cell? ⟨b,1,none⟩=some (.int .i64 p)∧w.frozen? ⟨b,1,none⟩=false∧s.size≤9223372036854775807∧p≤s.size
theorem Cur.lt {w:World} {b:Nat} {s:ByteArray} {p:Nat} (h:Cur w b s p):b<w.heap.size:=World.block_lt_of_cell? w _ h.1
theorem Cur.kept {w w':World} {b:Nat} {s:ByteArray} {p:Nat} (h:Cur w b s p) {row:Option Nat} (hg:w.grownBy w' row) (hne:some b≠row):Cur w' b s p :=
 ⟨hg.cell h.1 hne,hg.cell h.2.1 hne,(World.frozen?_of_block (hg.block b h.lt hne)).trans h.2.2.1,h.2.2.2⟩
theorem Cur.more {w w':World} {b:Nat} {s:ByteArray} {p:Nat} (h:Cur w b s p) (hg:w.grownBy w' none):Cur w' b s p:=h.kept hg (by simp)
theorem jce (w:World) (b o:Nat) (v:Value):w.grownBy (w.setCell ⟨b,o,none⟩ v) (some b) :=
 ⟨rfl,rfl,rfl,by simp,fun k _ hne=>by
  have hk:b≠k:=fun e=>hne (by rw [e]);simp [World.setCell,Array.getElem?_modify,hk]⟩
theorem Cur.set {w:World} {b:Nat} {s:ByteArray} {p:Nat} (h:Cur w b s p) (q:Nat) (hq:q≤s.size):Cur (w.setCell ⟨b,1,none⟩ (.int .i64 q)) b s q :=
 ⟨by rw [World.cell?_setCell_other _ _ _ _ (by simp)];exact h.1,World.cell?_setCell_same _ _ _ h.2.1,by rw [World.frozen?_setCell];exact h.2.2.1,h.2.2.2.1,hq⟩
theorem row_trans {a b c:World} {row:Option Nat} (h:a.grownBy b row) (k:b.grownBy c row):a.grownBy c row :=
 ⟨k.os.trans h.os,k.tape.trans h.tape,k.output.trans h.output,Nat.le_trans h.size k.size,fun i hi hne=>(k.block i (Nat.lt_of_lt_of_le hi h.size) hne).trans (h.block i hi hne)⟩
theorem row_of_none {a b:World} (row:Option Nat) (h:a.grownBy b none):a.grownBy b row:=⟨h.os,h.tape,h.output,h.size,fun i hi _=>h.block i hi (by simp)⟩
theorem row_drew {a b:World} {row:Option Nat} (h:a.grownBy b row):a.grownBy b.drew row:=⟨h.os,h.tape,h.output,h.size,h.block⟩
def bad:List PanicEntry:=[{ v:=.iface 28 (.int .i64 3),recovered:=false }]
theorem jbX (b:Nat) (s:ByteArray) (p:Nat) (w:World) (h:Cur w b s p) (hp:¬ p<s.size) :
    Calls Tryz.prog 153 #[.pointer (some ⟨b,0,none⟩)] w fun e w'=>e=.panicked bad∧w.grownBy w' (some b):=by
     obtain ⟨h0,h1,hf,hs,hp'⟩:=h;obtain rfl:p=s.size:=by omega
     go_enter Tryz.func153,Tryz.ntmps153;go_wp2;go_region
     all_goals
      go_wp2;exact ⟨rfl,rfl,row_drew (World.grownBy.refl _ _)⟩
theorem jbY (b:Nat) (s:ByteArray) (p:Nat) (w:World) (h:Cur w b s p) (hp:p<s.size) :
    Calls Tryz.prog 153 #[.pointer (some ⟨b,0,none⟩)] w fun e w'=>e=.returned (.int .u8 (bt s p))∧Cur w' b s (p+1)∧w.grownBy w' (some b):=by
     have hc:=h;obtain ⟨h0,h1,hf,hs,hp'⟩:=h;have hb:=bt_at s p hp;go_enter Tryz.func153,Tryz.ntmps153;go_wp2;go_region
     all_goals
      go_wp2;go_region
      all_goals
       go_wp2;go_ret;exact ⟨rfl,hc.set (p+1) hp,row_drew (row_drew (jce _ _ _ _))⟩
def Took (s:ByteArray) (p b:Nat) (w:World) (e:Ending) (w':World):Prop :=
 w.grownBy w' (some b)∧((∃ u q:Nat,tk s p=some (u,q)∧e=.returned (.int .u64 u)∧Cur w' b s q)∨(tk s p=none∧e=.panicked bad))
theorem jno (c:Nat) (h:c<256):bits .and .u8 (c:Int) 127=((c % 128:Nat):Int):=by
 have h1:bits .and .u8 (c:Int) 127=(c:Int) % 128:=bits_mask .u8 8 (by decide) wraps_u8 7 (by decide) c (by omega) (by omega);rw [h1];omega
theorem jkG (u c i:Nat) (hu:u<2 ^ i) (h:u+c*2 ^ i<18446744073709551616):bits .or .u64 (u:Int) (IntKind.u64.wrap ((c:Int)*2 ^ i))=((u+c*2 ^ i:Nat):Int):=by
 have e:(c:Int)*2 ^ i=((c*2 ^ i:Nat):Int):=by simp
 rw [e,IntKind.wrap_u64,Int.emod_eq_of_lt (by omega) (by omega),bits_or_u64_nat _ _ (by omega) (by omega)]
 congr 1
 rw [Nat.or_comm,Nat.mul_comm c,← Nat.two_pow_add_eq_or_of_lt hu,Nat.add_comm]
theorem or_63 (u c:Nat) (hu:u<9223372036854775808) (hc:c≤1):bits .or .u64 (u:Int) ((c:Int)*9223372036854775808)=((u+c*128 ^ 9:Nat):Int):=by
 have h:=jkG u c 63 hu (by omega);rw [IntKind.wrap_u64,Int.emod_eq_of_lt (by omega) (by omega)] at h;exact h
theorem jiD (i:Nat):2 ^ (7*i)=128 ^ i:=by rw [Nat.pow_mul]
theorem jl0 {i:Nat} (hi:i≤9):128 ^ i≤9223372036854775808:=by
 rcases jeS hi with rfl | rfl | rfl | rfl | rfl | rfl | rfl | rfl | rfl | rfl <;> simp
theorem jn3 (u c i:Nat) (hi:i≤8) (hu:u<128 ^ i):bits .or .u64 (u:Int) (IntKind.u64.wrap ((c:Int) % 128*2 ^ (7*i)))=((u+c % 128*128 ^ i:Nat):Int):=by
 have h1:=jkq (b:=c) hi hu;have h2:=jl0 (i:=i+1) (by omega);have h3:=jkG u (c % 128) (7*i) (by rw [jiD];exact hu) (by rw [jiD];omega);rw [jiD] at h3;simpa using h3
theorem jef (b:Nat) (s:ByteArray) (p:Nat) (w:World) (h:Cur w b s p) :
    Calls Tryz.prog 132 #[.pointer (some ⟨b,0,none⟩)] w fun e w'=>Took s p b w e w':=by
     have hs:=h.2.2.2.1;go_enter Tryz.func132,Tryz.ntmps132;go_wp2;go_loopw [3,7] (fun u i wr=>∃ k U:Nat,k≤9∧i=.int .i64 k∧u=.int .u64 U∧U<128 ^ k∧Cur wr b s (p+k)∧w.grownBy wr (some b)∧tk s p=tkF s p (10 - k) k U) (fun _ i _=>9 - (intOf i).toNat)
     case atStart=>exact ⟨0,0,by omega,rfl,rfl,by simp,h,World.grownBy.refl _ _,rfl⟩
     case round =>
      obtain ⟨k,U,hk,rfl,rfl,hU,hcur,hg,htk⟩:=hrel;rename_i wr;have HT:=jac htk
      have hU2:U<9223372036854775808:=by
       rcases jeS hk with rfl | rfl | rfl | rfl | rfl | rfl | rfl | rfl | rfl | rfl <;> simp at hU <;> omega
      have HU:=jac hU;clear htk hU;have hpk:=hcur.2.2.2.2;have hbt:=bt_lt s (p+k)
      by_cases hlt:k<9
      ·by_cases hin:p+k<s.size
       ·have NX:=jac (jbY b s (p+k) wr hcur hin);have hm:=jno _ hbt;clear hcur;go_wp2_with fail;refine NX.out.mono ?_;rintro e w1 ⟨rfl,hc1,hg1⟩;have HC:=jac hc1;clear hc1;have HO:=jac (jn3 U (bt s (p+k)) k (by omega) HU.out)
        by_cases hsm:bt s (p+k)<128
        ·go_wp2;rw [HO.out];go_ret;refine ⟨row_trans hg hg1,.inl ⟨_,p+k+1,?_,rfl,HC.out⟩⟩;have e:10 - k=10 - k - 1+1:=by omega
         rw [HT.out,e,jfO hin (by omega) hsm,Nat.mod_eq_of_lt hsm]
        ·go_wp2;rw [HO.out];go_roundw
         case rel =>
          refine ⟨k+1,_,by omega,by go_num,rfl,jkq (by omega) HU.out,HC.out,row_trans hg hg1,?_⟩;have e:10 - k=10 - (k+1)+1:=by omega
          rw [HT.out,e,ji5 hin (by omega) hsm]
         case measure=>simp [intOf];omega
       ·have NX:=jac (jbX b s (p+k) wr hcur hin);clear hcur;go_wp2_with fail;refine NX.out.mono ?_;rintro e w1 ⟨rfl,hg1⟩;go_wp2;exact ⟨rfl,row_trans hg hg1,.inr ⟨by rw [HT.out];exact jkp (by omega),rfl⟩⟩
      ·obtain rfl:k=9:=by omega
       by_cases hin:p+9<s.size
       ·have NX:=jac (jbY b s (p+9) wr hcur hin);clear hcur HU;go_wp2_with fail;refine NX.out.mono ?_;rintro e w1 ⟨rfl,hc1,hg1⟩;have HC:=jac hc1;clear hc1
        by_cases hbig:1<bt s (p+9)
        ·go_wp2;exact ⟨rfl,row_trans hg hg1,.inr ⟨by rw [HT.out];exact jnc hbig,rfl⟩⟩
        ·have HO:=jac (or_63 U (bt s (p+9)) hU2 (by omega));go_wp2;rw [HO.out];go_ret;refine ⟨row_trans hg hg1,.inl ⟨_,p+9+1,?_,rfl,HC.out⟩⟩;rw [HT.out];exact jfO hin (by omega) (by omega)
       ·have NX:=jac (jbX b s (p+9) wr hcur hin);clear hcur HU;go_wp2_with fail;refine NX.out.mono ?_;rintro e w1 ⟨rfl,hg1⟩;go_wp2;exact ⟨rfl,row_trans hg hg1,.inr ⟨by rw [HT.out];exact jkp (by omega),rfl⟩⟩
end Go.Proofs.YtbgbpfbjeleooaaGreat.Wr
