/- A part. -/
import Derived.Test.YtbgbpfbjeleooaaGreatRartAF
import Derived.Lib.Bytealg
import Derived.Lib.IndexLaws
import Derived.OwnWalk
import Derived.Lib.Strings
import Derived.Lib.Walk
import Derived.Lib.BufferWrite
import Derived.Lib.UnsafeStr
import Derived.Laws.MakeOwn
set_option maxHeartbeats 4000000
set_option maxRecDepth 100000
namespace Go.Proofs.YtbgbpfbjeleooaaGreat
open Go.RowKit
theorem infoByte:(Tryz.prog.info? 5).map (fun i=>(i.zero,i.size,i.bytes))=some (some (.int .u8 0),1,1):=by kernel_rfl
theorem jeV (s:ByteArray) (w:World) (hlim:s.size≤281474976710656) :
    Calls Tryz.prog 162 #[.string s] w fun e w'=>e=.returned (.string s)∧Below w.heap.size w w':=by
     by_cases h0:s.size=0
     ·have hs:s=⟨#[]⟩:=ByteArray.ext (Array.eq_empty_of_size_eq_zero h0);subst hs;go_enter Tryz.func162,Tryz.ntmps162;go_wp2;go_ret;exact ⟨rfl,Below.refl _ _⟩
     ·obtain ⟨i0,hi,hz0,hz1,hz2⟩:=info_parts infoByte;have hinfo:(Tryz.prog.info? 5).map (·.size)=some 1:=by rw [hi];simp [hz1]
      have hco:Tryz.prog.cellsOf 5=1:=by simp [Program.cellsOf,hi,hz1]
      obtain ⟨M,hM⟩ : ∃ M,M=madeCells (Value.int .u8 0).cells (((s.size:Nat):Int).toNat*i0.size):=⟨_,rfl⟩
      have hMs:M.size=s.size:=by rw [hM,size_madeCells,hz1];simp
      have hmk:∀ W:World,(Instr.makeSlice 84 (.int .i64 (s.size:Int)) (.int .i64 (s.size:Int))).run Tryz.prog W=.ok (.slice (some ⟨W.heap.size,0,none⟩) s.size s.size) (W.alloc (.cells M 5)):=fun W=>by
       have h:=run_make (P:=Tryz.prog) W 84 5 i0 (.int .u8 0) Tryz.underlying84 hi hz0 .i64 .i64 (s.size:Int) (s.size:Int) (by omega) (by omega) (by rw [hz2];omega) (by omega);rw [← hM] at h;simpa using h
      clear hM;have hcp:=Lib.run_copy_row_string (P:=Tryz.prog) (w.alloc (.cells M 5)) 84 9 3 5 w.heap.size 0 s.size s.size s M 5 Tryz.underlying84 hinfo (heap_alloc_new w _) (Nat.le_refl _) (by omega);obtain ⟨Y,hY⟩ : ∃ Y,Y=(M.toList.take 0++Lib.byteCells s.data.toList++M.toList.drop (0+s.size)).toArray:=⟨_,rfl⟩
      rw [← hY] at hcp
      have hYl:Y.toList=Lib.byteCells s.data.toList:=by
       rw [hY,List.toList_toArray,List.take_zero,List.nil_append,List.drop_of_length_le (by rw [Array.length_toList];omega),List.append_nil]
      have hgY:((w.alloc (.cells M 5)).setRow w.heap.size Y).heap[w.heap.size]?=some (.cells Y 5 (0,0)):=setRow_heap _ _ M _ 5 (0,0) (heap_alloc_new w _);have hne:s.data.toList≠[]:=fun e=>h0 (by rw [Lib.size_eq,e];rfl);have hYs:Y.size=s.size:=by rw [← Array.length_toList,hYl,Lib.byteCells_length,← Lib.size_eq]
      have hUS:=Lib.run_unsafeString_row (P:=Tryz.prog) ((w.alloc (.cells M 5)).setRow w.heap.size Y) 174 3 9 5 Tryz.underlying174 hco w.heap.size Y.size (by unfold World.shape?;rw [hgY]) s.data.toList hne (by rw [← Lib.size_eq];omega) (by rw [← Lib.size_eq];omega)
       (fun j x hx=>Lib.cells_of_row hgY Y.size j _ (by rw [List.take_of_length_le (by rw [Array.length_toList];exact Nat.le_refl _),hYl];simp [Lib.byteCells,hx]))
      rw [← Lib.size_eq] at hUS;clear hY;go_enter Tryz.func162,Tryz.ntmps162;go_wp2;go_ret;have hb1:Below w.heap.size w (w.alloc (.cells M 5)):=(Below.refl _ w).alloc (Nat.le_refl _) _;have hb2:Below w.heap.size (w.alloc (.cells M 5)) ((w.alloc (.cells M 5)).setRow w.heap.size Y):=⟨rfl,rfl,rfl,by simp,fun k hk=>setRow_other _ _ _ _ (by omega)⟩
      exact ⟨rfl,Lib.below_freeze (hb1.trans hb2) (p:=⟨w.heap.size,0,none⟩) (Nat.le_refl _) _⟩
theorem below_grown {w w':World} (h:Below w.heap.size w w'):w.grownBy w' none:=⟨h.os,h.tape,h.output,h.size,fun k hk _=>h.block k hk⟩
end Go.Proofs.YtbgbpfbjeleooaaGreat
namespace Go.Proofs.YtbgbpfbjeleooaaGreat
open Go.RowKit
abbrev jgD (s:ByteArray):List Value:=[.string s]
theorem jnf:(Tryz.prog.info? 9).map (fun i=>(i.zero,i.size,i.bytes))=some (some (.string ⟨#[]⟩),1,16):=by kernel_rfl
def B (l:List UInt8):ByteArray:=⟨l.toArray⟩
theorem jg8 {w:World} {base:Nat} {e:TypeId} {v:Value} {n:Nat} {xs:List Value} (h:w.ownsRow base e 1 v n xs):∃ a c,v=.slice a n c:=by
 rcases h.2 with ⟨rfl,rfl⟩ | ⟨g,cap,cur,rfl,_⟩
 ·exact ⟨_,_,rfl⟩
 ·exact ⟨_,_,rfl⟩
end Go.Proofs.YtbgbpfbjeleooaaGreat
namespace Go.Proofs.YtbgbpfbjeleooaaGreat
open Go.RowKit
abbrev jgL (w:World) (v:Value) (xs:List ByteArray):Prop:=IsL 16 1 jgD w v xs
theorem jkx {w:World} {b off len cap:Nat} {xs:List ByteArray} (h:IsL 16 1 jgD w (.slice (some ⟨b,off,none⟩) len cap) xs) (k:Nat) (hk:k<xs.length):w.cell? ⟨b,off+k,none⟩=some (.string xs[k]):=by
 have:=h.at k hk 0 (by omega);simpa using this
theorem jhM (s:ByteArray):(jgD s).length=1:=rfl
theorem jbx {a b c:World} {row:Option Nat} (h:a.grownBy b none) (k:b.grownBy c row):a.grownBy c row :=
 ⟨k.os.trans h.os,k.tape.trans h.tape,k.output.trans h.output,Nat.le_trans h.size k.size,fun i hi hn=>(k.block i (Nat.lt_of_lt_of_le hi h.size) hn).trans (h.block i hi (by simp))⟩
end Go.Proofs.YtbgbpfbjeleooaaGreat
