/- A part. -/
import Derived.Test.YtbgbpfbjeleooaaGreatRartAK
import Derived.Deep.RegionWith
set_option maxHeartbeats 3200000
set_option maxRecDepth 100000
namespace Go.Proofs.YtbgbpfbjeleooaaGreat.Wr
open Go.RowKit
theorem jhe (i:Nat):2 ^ (8*i)=256 ^ i:=by rw [Nat.pow_mul]
theorem jjV {i:Nat} (hi:i≤8):256 ^ i≤18446744073709551616:=by
 have:i=0∨i=1∨i=2∨i=3∨i=4∨i=5∨i=6∨i=7∨i=8:=by omega
 rcases this with rfl | rfl | rfl | rfl | rfl | rfl | rfl | rfl | rfl <;> simp
theorem or_low (s:ByteArray) (p k:Nat) (hk:k≤7):bits .or .u64 (low s p k:Int) (IntKind.u64.wrap ((bt s (p+k):Int)*2 ^ (8*k)))=(low s p (k+1):Int):=by
 have h1:=ji6 s (k+1) p;have h2:=jjV (i:=k+1) (by omega);have h3:=ji6 s k p;rw [ji7] at h1;rw [jkG _ _ (8*k) (by rw [jhe];exact h3) (by rw [jhe];omega),jhe,ji7]
theorem jcv {a b:World} {row:Option Nat} (h:a.drew.grownBy b row):a.grownBy b row:=⟨h.os,h.tape,h.output,h.size,h.block⟩
def Fixd (s:ByteArray) (p n b:Nat) (w:World) (e:Ending) (w':World):Prop :=
 w.grownBy w' (some b)∧((p+n≤s.size∧e=.returned (.int .u64 (low s p n))∧Cur w' b s (p+n))∨(s.size<p+n∧e=.panicked bad))
theorem jhQ (b:Nat) (s:ByteArray) (p n:Nat) (w:World) (h:Cur w b s p) (hn:n≤8) :
    Calls Tryz.prog 133 #[.pointer (some ⟨b,0,none⟩),.int .i64 n] w fun e w'=>Fixd s p n b w e w':=by
     go_enter Tryz.func133,Tryz.ntmps133;go_wp2;go_loopw [5,8] (fun u i wr=>∃ k:Nat,k≤n∧i=.int .i64 k∧u=.int .u64 (low s p k)∧Cur wr b s (p+k)∧w.grownBy wr (some b)) (fun _ i _=>n - (intOf i).toNat)
     case atStart=>exact ⟨0,by omega,rfl,rfl,h,World.grownBy.refl _ _⟩
     case round =>
      obtain ⟨k,hk,rfl,rfl,hcur,hg⟩:=hrel;rename_i wr;have hpk:=hcur.2.2.2.2;have hbt:=bt_lt s (p+k)
      by_cases hlt:k<n
      ·by_cases hin:p+k<s.size
       ·have NX:=jac (jbY b s (p+k) wr hcur hin);have HO:=jac (or_low s p k (by omega));clear hcur;go_wp2_with fail;refine NX.out.mono ?_;rintro e w1 ⟨rfl,hc1,hg1⟩;have HC:=jac hc1;clear hc1;go_wp2;rw [HO.out];go_roundw
        case rel=>exact ⟨k+1,by omega,by go_num,rfl,HC.out,row_trans hg hg1⟩
        case measure=>simp [intOf];omega
       ·have NX:=jac (jbX b s (p+k) wr hcur hin);clear hcur;go_wp2_with fail;refine NX.out.mono ?_;rintro e w1 ⟨rfl,hg1⟩;go_wp2;exact ⟨rfl,row_trans hg hg1,.inr ⟨by omega,rfl⟩⟩
      ·obtain rfl:k=n:=by omega
       have HC:=jac hcur;clear hcur;go_wp2;go_ret;exact ⟨hg,.inl ⟨by omega,rfl,HC.out⟩⟩
def Byts (s:ByteArray) (p b:Nat) (w:World) (e:Ending) (w':World):Prop :=
 w.grownBy w' (some b)∧((∃ n r,tk s p=some (n,r)∧n≤s.size - r∧e=.returned (.string (s.extract r (r+n)))∧Cur w' b s (r+n))∨((tk s p=none∨∃ n r,tk s p=some (n,r)∧¬ n≤s.size - r)∧e=.panicked bad))
theorem jbs (b:Nat) (s:ByteArray) (p:Nat) (w:World) (h:Cur w b s p) (hs:s.size≤16777216) :
    Calls Tryz.prog 134 #[.pointer (some ⟨b,0,none⟩)] w fun e w'=>Byts s p b w e w':=by
     have V:=jac (jef b s p w h);go_enter Tryz.func134,Tryz.ntmps134;go_wp2_with fail;refine V.out.mono ?_;rintro e w1 ⟨hg1,⟨n,r,ht,rfl,hc⟩ | ⟨ht,rfl⟩⟩
     ·have HT:=jac ht;have hsp:=tk_spec ht;have HC:=jac hc;obtain ⟨h0,h1,hf,-,hr⟩:=hc;clear ht
      by_cases hle:n≤s.size - r
      ·go_wp2;go_region
       all_goals
        go_wp2;have hc2:=HC.out.set (r+n) (by omega);rw [show ((r+n:Nat):Int)=(r:Int)+n by omega] at hc2;obtain ⟨w2,hw2⟩ : ∃ w2,w2=w1.setCell ⟨b,1,none⟩ (.int .i64 ((r:Int)+n)):=⟨_,rfl⟩
        have hg2:w.grownBy w2 (some b):=by rw [hw2];exact row_trans hg1 (jce _ _ _ _)
        rw [← hw2] at hc2;rw [← hw2];clear hw2 h0 h1 hf;have HC2:=jac hc2;obtain ⟨k0,k1,-,-,-⟩:=hc2;have CL:=jac (fun wx=>jkH (s.extract r (r+n)) wx (by rw [ByteArray.size_extract];omega));go_region_with (go_at_call 154;refine (CL.out _).mono ?_;rintro e w3 ⟨rfl,hg3'⟩;have hg3:=jcv (jcv hg3'))
        all_goals
         go_wp2;go_ret;exact ⟨row_trans hg2 (row_of_none _ hg3),.inl ⟨n,r,HT.out,hle,rfl,HC2.out.more hg3⟩⟩
      ·go_wp2;go_region
       all_goals
        go_wp2;exact ⟨rfl,row_drew hg1,.inr ⟨.inr ⟨n,r,HT.out,hle⟩,rfl⟩⟩
     ·go_wp2;exact ⟨rfl,hg1,.inr ⟨.inl ht,rfl⟩⟩
end Go.Proofs.YtbgbpfbjeleooaaGreat.Wr
namespace Go.Proofs.YtbgbpfbjeleooaaGreat.Wr
open Go.RowKit
def jcH (x:Fld):Value:=.agg #[.int .i64 x.num,.int .i64 x.kind,.int .u64 x.u,.string x.b]
def Fldd (s:ByteArray) (p b:Nat) (w:World) (e:Ending) (w':World):Prop :=
 w.grownBy w' (some b)∧((∃ x q,fd s p=some (x,q)∧e=.returned (jcH x)∧Cur w' b s q)∨(fd s p=none∧e=.panicked bad))
theorem and7 (t:Nat) (h:t<18446744073709551616):bits .and .u64 (t:Int) 7=((t % 8:Nat):Int):=by
 have h7:=bits_and_u64_nat t 7 h (by omega);rw [show ((7:Nat):Int)=7 from rfl] at h7;rw [h7,show (7:Nat)=2 ^ 3 - 1 from rfl,Nat.and_two_pow_sub_one_eq_mod]
theorem jfS {w:World} {B:Nat} {a b c d:Value} {t:TypeId} (hb:w.heap[B]?=some (.cells #[a,b,c,d] t (0,0))) :
    w.cell? ⟨B,0,none⟩=some a∧w.cell? ⟨B,1,none⟩=some b∧w.cell? ⟨B,2,none⟩=some c∧w.cell? ⟨B,3,none⟩=some d∧w.frozen? ⟨B,0,none⟩=false∧w.frozen? ⟨B,1,none⟩=false∧w.frozen? ⟨B,2,none⟩=false∧w.frozen? ⟨B,3,none⟩=false :=
     ⟨(cell_of_row _ _ 0 _ _ (0,0) hb).trans rfl,(cell_of_row _ _ 1 _ _ (0,0) hb).trans rfl,(cell_of_row _ _ 2 _ _ (0,0) hb).trans rfl,(cell_of_row _ _ 3 _ _ (0,0) hb).trans rfl,frozen_of_row w B 0 _ _ hb,frozen_of_row w B 1 _ _ hb,frozen_of_row w B 2 _ _ hb,frozen_of_row w B 3 _ _ hb⟩
theorem jaV {W w:World} {row:Option Nat} (h:W.grownBy w row) {B o:Nat} {v:Value} (hB:W.heap.size≤B):W.grownBy (w.setCell ⟨B,o,none⟩ v) row :=
 ⟨h.os,h.tape,h.output,by simpa using h.size,fun i hi hne=>((jce w B o v).block i (Nat.lt_of_lt_of_le hi h.size) (fun e=>by cases e;omega)).trans (h.block i hi hne)⟩
theorem Cur.past {w:World} {b:Nat} {s:ByteArray} {p:Nat} (h:Cur w b s p) {B o:Nat} {v:Value} (hB:b<B):Cur (w.setCell ⟨B,o,none⟩ v) b s p :=
 h.kept (jce w B o v) (fun e=>by cases e;omega)
theorem hem:(⟨#[]⟩ : ByteArray)=ByteArray.empty:=rfl
theorem jkI (b:Nat) (s:ByteArray) (p:Nat) (w:World) (h:Cur w b s p) (hs:s.size≤16777216) :
    Calls Tryz.prog 106 #[.pointer (some ⟨b,0,none⟩)] w fun e w'=>Fldd s p b w e w':=by
     have hbw:=h.lt;obtain ⟨w0,hw0⟩ : ∃ w0,w0=w.alloc (.cells #[.int .i64 0,.int .i64 0,.int .u64 0,.string ⟨#[]⟩] 49):=⟨_,rfl⟩
     have hg0:w.grownBy w0 none:=by rw [hw0];exact jab _ _
     have B0:w0.heap[w.heap.size]?=some (.cells #[.int .i64 0,.int .i64 0,.int .u64 0,.string ⟨#[]⟩] 49 (0,0)):=by rw [hw0];exact heap_alloc_new w _
     have V:=jac (jef b s p w0 (h.more hg0));go_enter Tryz.func106,Tryz.ntmps106;go_wp2_with fail;rw [← hw0];clear hw0;refine V.out.mono ?_;rintro e w1 ⟨hg1,⟨t,q,ht,rfl,hc⟩ | ⟨ht,rfl⟩⟩
     ·have HT:=jac ht;have hsp:=tk_spec ht;have HC:=jac hc;have hg01:=row_trans (row_of_none (some b) hg0) hg1;have hne:some w.heap.size≠some b:=fun e=>by cases e;omega
      have B1:=(hg1.block w.heap.size (World.block_lt_of_cell? w0 ⟨w.heap.size,0,none⟩ (jfS B0).1) hne).trans B0;clear ht hc
      by_cases hbad:4294967295<t∨t<8
      ·have hn:fd s p=none:=by simp only [fd,HT.out,fdT,hbad,if_true]
       rcases hbad with hbad | hbad
       ·go_wp2;exact ⟨rfl,hg01,.inr ⟨hn,rfl⟩⟩
       ·have hz:((t:Int) / 8==0)=true:=by rw [beq_iff_eq];omega
        go_wp2;exact ⟨rfl,hg01,.inr ⟨hn,rfl⟩⟩
      ·have hz:((t:Int) / 8==0)=false:=by rw [beq_eq_false_iff_ne];omega
       have ht1:t≤4294967295:=by omega
       have HB:=jac hbad;clear hbad;have hm:=and7 t (by omega);obtain ⟨k,hk⟩ : ∃ k,t % 8=k:=⟨_,rfl⟩
       have hk8:k<8:=by omega
       rw [hk] at hm;have HK:=jac hk;clear hk;obtain ⟨w2,hw2⟩ : ∃ w2,w2=w1.alloc (.cells #[.int .i64 ((t:Int) / 8),.int .i64 k,.int .u64 0,.string ⟨#[]⟩] 49):=⟨_,rfl⟩
       have hg02:w.grownBy w2 (some b):=by rw [hw2];exact row_trans hg01 (jab _ _ |> row_of_none _)
       have B2:Hid (∀ w3,w2.grownBy w3 (some b)→w3.heap[w.heap.size]?=some (.cells #[.int .i64 0,.int .i64 0,.int .u64 0,.string ⟨#[]⟩] 49 (0,0))∧w3.heap[w1.heap.size]?=some (.cells #[.int .i64 ((t:Int) / 8),.int .i64 k,.int .u64 0,.string ⟨#[]⟩] 49 (0,0))):=by
        intro w3 h3;have hx:w.heap.size<w1.heap.size:=World.block_lt_of_cell? w1 ⟨w.heap.size,0,none⟩ (jfS B1).1;have hy:some w1.heap.size≠some b:=fun e=>by cases e;have:=hg01.size;omega
        have hz:w2.heap.size=w1.heap.size+1:=by rw [hw2];simp
        refine ⟨(h3.block _ (by omega) hne).trans ?_,(h3.block _ (by omega) hy).trans ?_⟩
        ·rw [hw2];exact ((jab w1 _).block _ hx (by simp)).trans B1
        ·rw [hw2];exact heap_alloc_new w1 _
       have HC2:Cur w2 b s q:=by rw [hw2];exact HC.out.more (jab _ _)
       have hx:w.heap.size<w1.heap.size:=World.block_lt_of_cell? w1 ⟨w.heap.size,0,none⟩ (jfS B1).1;clear B1 B0
       by_cases k0:k=0
       ·subst k0;have V2:=jac (jef b s q w2 HC2);clear HC2;go_wp2_with fail;rw [← show w2=w1.alloc (.cells #[.int .i64 ((t:Int) / 8),.int .i64 0,.int .u64 0,.string ⟨#[]⟩] 49) from hw2];clear hw2;refine V2.out.mono ?_;rintro e w3 ⟨hg3,⟨u,r,hu,rfl,hc3⟩ | ⟨hu,rfl⟩⟩
        ·obtain ⟨b0,b1⟩:=B2.out w3 hg3;obtain ⟨c0,c1,c2,c3,f0,f1,f2,f3⟩:=jfS b0;obtain ⟨d0,d1,d2,d3,-,-,e2,e3⟩:=jfS b1;have HC4:=jac hc3;have HU:=jac hu;clear hc3 hu b0 b1;go_wp2;refine bodyPost_ret (v:=jcH ⟨(t / 8:Nat),0,u,ByteArray.empty⟩) (by simp [results,Tryz.results106,go_sem,c0,c1,c2,c3,jcH,hem]) rfl ?_;refine ⟨jaV (jaV (jaV (jaV (jaV (row_trans hg02 hg3) ?_) ?_) ?_) ?_) ?_,.inl ⟨_,r,by simp [fd,fdT,HT.out,HB.out,HK.out,HU.out],rfl,((((HC4.out.past ?_).past ?_).past ?_).past ?_).past ?_⟩⟩ <;> omega
        ·go_wp2;exact ⟨rfl,row_trans hg02 hg3,.inr ⟨by simp [fd,fdT,HT.out,HB.out,HK.out,hu],rfl⟩⟩
       by_cases k1:k=1
       ·subst k1;have V2:=jac (jhQ b s q 8 w2 HC2 (by omega));clear HC2;go_wp2_with fail;rw [← show w2=w1.alloc (.cells #[.int .i64 ((t:Int) / 8),.int .i64 1,.int .u64 0,.string ⟨#[]⟩] 49) from hw2];clear hw2;refine V2.out.mono ?_;rintro e w3 ⟨hg3,⟨hu,rfl,hc3⟩ | ⟨hu,rfl⟩⟩
        ·obtain ⟨b0,b1⟩:=B2.out w3 hg3;obtain ⟨c0,c1,c2,c3,f0,f1,f2,f3⟩:=jfS b0;obtain ⟨d0,d1,d2,d3,-,-,e2,e3⟩:=jfS b1;have HC4:=jac hc3;have HU:=jac hu;clear hc3 hu b0 b1;go_wp2;refine bodyPost_ret (v:=jcH ⟨(t / 8:Nat),1,(low s q 8:Nat),ByteArray.empty⟩) (by simp [results,Tryz.results106,go_sem,c0,c1,c2,c3,jcH,hem]) rfl ?_;refine ⟨jaV (jaV (jaV (jaV (jaV (row_trans hg02 hg3) ?_) ?_) ?_) ?_) ?_,.inl ⟨_,q+8,by simp [fd,fdT,HT.out,HB.out,HK.out,HU.out],rfl,((((HC4.out.past ?_).past ?_).past ?_).past ?_).past ?_⟩⟩ <;> omega
        ·go_wp2;exact ⟨rfl,row_trans hg02 hg3,.inr ⟨by simp [fd,fdT,HT.out,HB.out,HK.out,Nat.not_le.2 hu],rfl⟩⟩
       by_cases k5:k=5
       ·subst k5;have V2:=jac (jhQ b s q 4 w2 HC2 (by omega));clear HC2;go_wp2_with fail;rw [← show w2=w1.alloc (.cells #[.int .i64 ((t:Int) / 8),.int .i64 5,.int .u64 0,.string ⟨#[]⟩] 49) from hw2];clear hw2;refine V2.out.mono ?_;rintro e w3 ⟨hg3,⟨hu,rfl,hc3⟩ | ⟨hu,rfl⟩⟩
        ·obtain ⟨b0,b1⟩:=B2.out w3 hg3;obtain ⟨c0,c1,c2,c3,f0,f1,f2,f3⟩:=jfS b0;obtain ⟨d0,d1,d2,d3,-,-,e2,e3⟩:=jfS b1;have HC4:=jac hc3;have HU:=jac hu;clear hc3 hu b0 b1;go_wp2;refine bodyPost_ret (v:=jcH ⟨(t / 8:Nat),5,(low s q 4:Nat),ByteArray.empty⟩) (by simp [results,Tryz.results106,go_sem,c0,c1,c2,c3,jcH,hem]) rfl ?_;refine ⟨jaV (jaV (jaV (jaV (jaV (row_trans hg02 hg3) ?_) ?_) ?_) ?_) ?_,.inl ⟨_,q+4,by simp [fd,fdT,HT.out,HB.out,HK.out,HU.out],rfl,((((HC4.out.past ?_).past ?_).past ?_).past ?_).past ?_⟩⟩ <;> omega
        ·go_wp2;exact ⟨rfl,row_trans hg02 hg3,.inr ⟨by simp [fd,fdT,HT.out,HB.out,HK.out,Nat.not_le.2 hu],rfl⟩⟩
       by_cases k2:k=2
       ·subst k2;have V2:=jac (jbs b s q w2 HC2 hs);clear HC2;go_wp2_with fail;rw [← show w2=w1.alloc (.cells #[.int .i64 ((t:Int) / 8),.int .i64 2,.int .u64 0,.string ⟨#[]⟩] 49) from hw2];clear hw2;refine V2.out.mono ?_;rintro e w3 ⟨hg3,⟨n,r,hu,hle,rfl,hc3⟩ | ⟨hu,rfl⟩⟩
        ·obtain ⟨b0,b1⟩:=B2.out w3 hg3;obtain ⟨c0,c1,c2,c3,f0,f1,f2,f3⟩:=jfS b0;obtain ⟨d0,d1,d2,d3,-,-,e2,e3⟩:=jfS b1;have HC4:=jac hc3;have HU:=jac hu;clear hc3 hu b0 b1;go_wp2;refine bodyPost_ret (v:=jcH ⟨(t / 8:Nat),2,0,s.extract r (r+n)⟩) (by simp [results,Tryz.results106,go_sem,c0,c1,c2,c3,jcH,hem]) rfl ?_;refine ⟨jaV (jaV (jaV (jaV (jaV (row_trans hg02 hg3) ?_) ?_) ?_) ?_) ?_,.inl ⟨_,r+n,by simp [fd,fdT,HT.out,HB.out,HK.out,HU.out,hle],rfl,((((HC4.out.past ?_).past ?_).past ?_).past ?_).past ?_⟩⟩ <;> omega
        ·go_wp2;exact ⟨rfl,row_trans hg02 hg3,.inr ⟨by rcases hu with hu | ⟨n,r,hu,hle⟩ <;> simp [fd,fdT,HT.out,HB.out,HK.out,hu] <;> omega,rfl⟩⟩
       have hn:fd s p=none:=by simp [fd,fdT,HT.out,HB.out,HK.out,k0,k1,k2,k5]
       have j0:((k:Int)==0)=false:=by rw [beq_eq_false_iff_ne];omega
       have j1:((k:Int)==1)=false:=by rw [beq_eq_false_iff_ne];omega
       have j2:((k:Int)==2)=false:=by rw [beq_eq_false_iff_ne];omega
       have j5:((k:Int)==5)=false:=by rw [beq_eq_false_iff_ne];omega
       go_wp2;rw [← hw2];exact ⟨rfl,hg02,.inr ⟨hn,rfl⟩⟩
     ·go_wp2;exact ⟨rfl,row_trans (row_of_none (some b) hg0) hg1,.inr ⟨by simp only [fd,ht],rfl⟩⟩
end Go.Proofs.YtbgbpfbjeleooaaGreat.Wr
