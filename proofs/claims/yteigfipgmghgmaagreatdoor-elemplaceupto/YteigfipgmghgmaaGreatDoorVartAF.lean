/- A part. -/
import Derived.Test.YteigfipgmghgmaaGreatDoorVartAE
import Derived.Lib.Strings
import Derived.Lib.Walk
import Derived.Lib.BufferWrite
import Derived.Lib.UnsafeStr
import Derived.Laws.MakeOwn
set_option maxHeartbeats 6400000
set_option maxRecDepth 100000
namespace Go.Proofs.YteigfipgmghgmaaGreatDoor
open Go.RowKit
theorem jp5:(Tryz.prog.info? 5).map (fun i=>(i.zero,i.size,i.bytes))=some (some (.int .u8 0),1,1):=by kernel_rfl
theorem jhr (s:ByteArray) (w:World) (hlim:s.size≤281474976710656) :
    Calls Tryz.prog 158 #[.string s] w fun e w'=>e=.returned (.string s)∧Below w.heap.size w w':=by
     by_cases h0:s.size=0
     ·have hs:s=⟨#[]⟩:=ByteArray.ext (Array.eq_empty_of_size_eq_zero h0);subst hs;go_enter Tryz.func158,Tryz.ntmps158;go_wp2;go_ret;exact ⟨rfl,Below.refl _ _⟩
     ·obtain ⟨i0,hi,hz0,hz1,hz2⟩:=info_parts jp5;have hinfo:(Tryz.prog.info? 5).map (·.size)=some 1:=by rw [hi];simp [hz1]
      have hco:Tryz.prog.cellsOf 5=1:=by simp [Program.cellsOf,hi,hz1]
      obtain ⟨M,hM⟩ : ∃ M,M=madeCells (Value.int .u8 0).cells (((s.size:Nat):Int).toNat*i0.size):=⟨_,rfl⟩
      have hMs:M.size=s.size:=by rw [hM,size_madeCells,hz1];simp
      have hmk:∀ W:World,(Instr.makeSlice 187 (.int .i64 (s.size:Int)) (.int .i64 (s.size:Int))).run Tryz.prog W=.ok (.slice (some ⟨W.heap.size,0,none⟩) s.size s.size) (W.alloc (.cells M 5)):=fun W=>by
       have h:=run_make (P:=Tryz.prog) W 187 5 i0 (.int .u8 0) Tryz.underlying187 hi hz0 .i64 .i64 (s.size:Int) (s.size:Int) (by omega) (by omega) (by rw [hz2];omega) (by omega);rw [← hM] at h;simpa using h
      clear hM;have hcp:=Lib.run_copy_row_string (P:=Tryz.prog) (w.alloc (.cells M 5)) 187 9 3 5 w.heap.size 0 s.size s.size s M 5 Tryz.underlying187 hinfo (heap_alloc_new w _) (Nat.le_refl _) (by omega);obtain ⟨Y,hY⟩ : ∃ Y,Y=(M.toList.take 0++Lib.byteCells s.data.toList++M.toList.drop (0+s.size)).toArray:=⟨_,rfl⟩
      rw [← hY] at hcp
      have hYl:Y.toList=Lib.byteCells s.data.toList:=by
       rw [hY,List.toList_toArray,List.take_zero,List.nil_append,List.drop_of_length_le (by rw [Array.length_toList];omega),List.append_nil]
      have hgY:((w.alloc (.cells M 5)).setRow w.heap.size Y).heap[w.heap.size]?=some (.cells Y 5 (0,0)):=setRow_heap _ _ M _ 5 (0,0) (heap_alloc_new w _);have hne:s.data.toList≠[]:=fun e=>h0 (by rw [Lib.size_eq,e];rfl);have hYs:Y.size=s.size:=by rw [← Array.length_toList,hYl,Lib.byteCells_length,← Lib.size_eq]
      have hUS:=Lib.run_unsafeString_row (P:=Tryz.prog) ((w.alloc (.cells M 5)).setRow w.heap.size Y) 188 3 9 5 Tryz.underlying188 hco w.heap.size Y.size (by unfold World.shape?;rw [hgY]) s.data.toList hne (by rw [← Lib.size_eq];omega) (by rw [← Lib.size_eq];omega)
       (fun j x hx=>Lib.cells_of_row hgY Y.size j _ (by rw [List.take_of_length_le (by rw [Array.length_toList];exact Nat.le_refl _),hYl];simp [Lib.byteCells,hx]))
      rw [← Lib.size_eq] at hUS;clear hY;go_enter Tryz.func158,Tryz.ntmps158;go_wp2;go_ret;have hb1:Below w.heap.size w (w.alloc (.cells M 5)):=(Below.refl _ w).alloc (Nat.le_refl _) _;have hb2:Below w.heap.size (w.alloc (.cells M 5)) ((w.alloc (.cells M 5)).setRow w.heap.size Y):=⟨rfl,rfl,rfl,by simp,fun k hk=>setRow_other _ _ _ _ (by omega)⟩
      exact ⟨rfl,Lib.below_freeze (hb1.trans hb2) (p:=⟨w.heap.size,0,none⟩) (Nat.le_refl _) _⟩
theorem jjI {w w':World} (h:Below w.heap.size w w'):w.grownBy w' none:=⟨h.os,h.tape,h.output,h.size,fun k hk _=>h.block k hk⟩
theorem jdA (s:ByteArray) (w:World) (hlim:s.size≤281474976710656) :
    Calls Tryz.prog 130 #[.string s] w fun e w'=>e=.returned (.string s)∧w.grownBy w' none:=by
     go_enter Tryz.func130,Tryz.ntmps130;go_wp2_with fail;refine (jhr s w hlim).mono ?_;rintro e w1 ⟨rfl,hb⟩;go_wp2;go_ret;exact ⟨rfl,jjI hb⟩
end Go.Proofs.YteigfipgmghgmaaGreatDoor
namespace Go.Proofs.YteigfipgmghgmaaGreatDoor
open Go.RowKit
def jkY:List (List UInt8):=[[73,100,101,110,116,105,116,121],[78,101,103],[65,98,115],[78,111,116],[82,101,108,117],[83,113,114,116],[70,108,111,111,114],[69,120,112],[83,105,103,109,111,105,100],[84,97,110,104]]
def Laid (w:World):Prop :=
 w.cell? ⟨1,0,none⟩=some (.string ⟨#[73,100,101,110,116,105,116,121]⟩)∧w.cell? ⟨1,1,none⟩=some (.string ⟨#[78,101,103]⟩)∧w.cell? ⟨1,2,none⟩=some (.string ⟨#[65,98,115]⟩)∧w.cell? ⟨1,3,none⟩=some (.string ⟨#[78,111,116]⟩)∧w.cell? ⟨1,4,none⟩=some (.string ⟨#[82,101,108,117]⟩)∧w.cell? ⟨1,5,none⟩=some (.string ⟨#[83,113,114,116]⟩)∧w.cell? ⟨1,6,none⟩=some (.string ⟨#[70,108,111,111,114]⟩)∧w.cell? ⟨1,7,none⟩=some (.string ⟨#[69,120,112]⟩)∧w.cell? ⟨1,8,none⟩=some (.string ⟨#[83,105,103,109,111,105,100]⟩)∧w.cell? ⟨1,9,none⟩=some (.string ⟨#[84,97,110,104]⟩)
theorem Laid.more {w w':World} (h:Laid w) (hg:w.grownBy w' none):Laid w':=by
 have hb:1<w.heap.size:=World.block_lt_of_cell? w _ h.1;have e:∀ j,w'.cell? ⟨1,j,none⟩=w.cell? ⟨1,j,none⟩:=fun j=>World.cell?_of_block (hg.block 1 hb (by simp));unfold Laid;simp only [e];exact h
theorem jck {l:List (List UInt8)} {f:List UInt8→Bool} {k:Nat} {x:List UInt8} (h:(l.take k).any f=false) (hx:l[k]?=some x) (hf:f x=false):(l.take (k+1)).any f=false:=by
 rw [List.take_add_one,List.any_append,h,hx];simp [hf]
def jaw (s:ByteArray):Bool:=jkY.any (fun n=>n==s.toList)
theorem jar (s:ByteArray) (w:World) (hl:Laid w) :
    Calls Tryz.prog 129 #[.string s] w fun e w'=>e=.returned (.bool (jaw s))∧w.grownBy w' none:=by
     obtain ⟨c0,c1,c2,c3,c4,c5,c6,c7,c8,c9⟩:=hl;go_enter Tryz.func129,Tryz.ntmps129;go_wp2_with fail;clear c0 c1 c2 c3 c4 c5 c6 c7 c8 c9;go_loopw [6] (fun i wr=>w.grownBy wr none∧∃ k:Nat,k≤10∧i=.int .i64 k∧(jkY.take k).any (fun n=>n==s.toList)=false) (fun i _=>10 - (intOf i).toNat)
     case atStart=>exact ⟨jad _,0,by omega,rfl,rfl⟩
     case round =>
      obtain ⟨hg,k,hk,rfl,hno⟩:=hrel;have HNO:=jac hno;clear hno;obtain rfl | rfl | rfl | rfl | rfl | rfl | rfl | rfl | rfl | rfl | rfl:k=0∨k=1∨k=2∨k=3∨k=4∨k=5∨k=6∨k=7∨k=8∨k=9∨k=10:=by omega
      ·have ix:∀ W,(Instr.index 180 (.agg #[.string ⟨#[73,100,101,110,116,105,116,121]⟩,.string ⟨#[78,101,103]⟩,.string ⟨#[65,98,115]⟩,.string ⟨#[78,111,116]⟩,.string ⟨#[82,101,108,117]⟩,.string ⟨#[83,113,114,116]⟩,.string ⟨#[70,108,111,111,114]⟩,.string ⟨#[69,120,112]⟩,.string ⟨#[83,105,103,109,111,105,100]⟩,.string ⟨#[84,97,110,104]⟩]) (.int .i64 0)).run Tryz.prog W=.ok (.string ⟨#[73,100,101,110,116,105,116,121]⟩) W:=fun _=>by kernel_rfl
       by_cases h:(([73,100,101,110,116,105,116,121]:List UInt8)==s.toList)=true
       ·have H:=jac h;go_wp2;go_ret;exact ⟨by have h1:=H.out;simp [jaw,jkY,eq_of_beq h1],hg⟩
       ·have h':(([73,100,101,110,116,105,116,121]:List UInt8)==s.toList)=false:=by simpa using h
        have H:=jac h';clear h;go_wp2;go_roundw
        case rel=>exact ⟨hg,1,by omega,by go_num,jck HNO.out rfl H.out⟩
        case measure=>simp [intOf]
      ·have ix:∀ W,(Instr.index 180 (.agg #[.string ⟨#[73,100,101,110,116,105,116,121]⟩,.string ⟨#[78,101,103]⟩,.string ⟨#[65,98,115]⟩,.string ⟨#[78,111,116]⟩,.string ⟨#[82,101,108,117]⟩,.string ⟨#[83,113,114,116]⟩,.string ⟨#[70,108,111,111,114]⟩,.string ⟨#[69,120,112]⟩,.string ⟨#[83,105,103,109,111,105,100]⟩,.string ⟨#[84,97,110,104]⟩]) (.int .i64 1)).run Tryz.prog W=.ok (.string ⟨#[78,101,103]⟩) W:=fun _=>by kernel_rfl
       by_cases h:(([78,101,103]:List UInt8)==s.toList)=true
       ·have H:=jac h;go_wp2;go_ret;exact ⟨by have h1:=H.out;simp [jaw,jkY,eq_of_beq h1],hg⟩
       ·have h':(([78,101,103]:List UInt8)==s.toList)=false:=by simpa using h
        have H:=jac h';clear h;go_wp2;go_roundw
        case rel=>exact ⟨hg,2,by omega,by go_num,jck HNO.out rfl H.out⟩
        case measure=>simp [intOf]
      ·have ix:∀ W,(Instr.index 180 (.agg #[.string ⟨#[73,100,101,110,116,105,116,121]⟩,.string ⟨#[78,101,103]⟩,.string ⟨#[65,98,115]⟩,.string ⟨#[78,111,116]⟩,.string ⟨#[82,101,108,117]⟩,.string ⟨#[83,113,114,116]⟩,.string ⟨#[70,108,111,111,114]⟩,.string ⟨#[69,120,112]⟩,.string ⟨#[83,105,103,109,111,105,100]⟩,.string ⟨#[84,97,110,104]⟩]) (.int .i64 2)).run Tryz.prog W=.ok (.string ⟨#[65,98,115]⟩) W:=fun _=>by kernel_rfl
       by_cases h:(([65,98,115]:List UInt8)==s.toList)=true
       ·have H:=jac h;go_wp2;go_ret;exact ⟨by have h1:=H.out;simp [jaw,jkY,eq_of_beq h1],hg⟩
       ·have h':(([65,98,115]:List UInt8)==s.toList)=false:=by simpa using h
        have H:=jac h';clear h;go_wp2;go_roundw
        case rel=>exact ⟨hg,3,by omega,by go_num,jck HNO.out rfl H.out⟩
        case measure=>simp [intOf]
      ·have ix:∀ W,(Instr.index 180 (.agg #[.string ⟨#[73,100,101,110,116,105,116,121]⟩,.string ⟨#[78,101,103]⟩,.string ⟨#[65,98,115]⟩,.string ⟨#[78,111,116]⟩,.string ⟨#[82,101,108,117]⟩,.string ⟨#[83,113,114,116]⟩,.string ⟨#[70,108,111,111,114]⟩,.string ⟨#[69,120,112]⟩,.string ⟨#[83,105,103,109,111,105,100]⟩,.string ⟨#[84,97,110,104]⟩]) (.int .i64 3)).run Tryz.prog W=.ok (.string ⟨#[78,111,116]⟩) W:=fun _=>by kernel_rfl
       by_cases h:(([78,111,116]:List UInt8)==s.toList)=true
       ·have H:=jac h;go_wp2;go_ret;exact ⟨by have h1:=H.out;simp [jaw,jkY,eq_of_beq h1],hg⟩
       ·have h':(([78,111,116]:List UInt8)==s.toList)=false:=by simpa using h
        have H:=jac h';clear h;go_wp2;go_roundw
        case rel=>exact ⟨hg,4,by omega,by go_num,jck HNO.out rfl H.out⟩
        case measure=>simp [intOf]
      ·have ix:∀ W,(Instr.index 180 (.agg #[.string ⟨#[73,100,101,110,116,105,116,121]⟩,.string ⟨#[78,101,103]⟩,.string ⟨#[65,98,115]⟩,.string ⟨#[78,111,116]⟩,.string ⟨#[82,101,108,117]⟩,.string ⟨#[83,113,114,116]⟩,.string ⟨#[70,108,111,111,114]⟩,.string ⟨#[69,120,112]⟩,.string ⟨#[83,105,103,109,111,105,100]⟩,.string ⟨#[84,97,110,104]⟩]) (.int .i64 4)).run Tryz.prog W=.ok (.string ⟨#[82,101,108,117]⟩) W:=fun _=>by kernel_rfl
       by_cases h:(([82,101,108,117]:List UInt8)==s.toList)=true
       ·have H:=jac h;go_wp2;go_ret;exact ⟨by have h1:=H.out;simp [jaw,jkY,eq_of_beq h1],hg⟩
       ·have h':(([82,101,108,117]:List UInt8)==s.toList)=false:=by simpa using h
        have H:=jac h';clear h;go_wp2;go_roundw
        case rel=>exact ⟨hg,5,by omega,by go_num,jck HNO.out rfl H.out⟩
        case measure=>simp [intOf]
      ·have ix:∀ W,(Instr.index 180 (.agg #[.string ⟨#[73,100,101,110,116,105,116,121]⟩,.string ⟨#[78,101,103]⟩,.string ⟨#[65,98,115]⟩,.string ⟨#[78,111,116]⟩,.string ⟨#[82,101,108,117]⟩,.string ⟨#[83,113,114,116]⟩,.string ⟨#[70,108,111,111,114]⟩,.string ⟨#[69,120,112]⟩,.string ⟨#[83,105,103,109,111,105,100]⟩,.string ⟨#[84,97,110,104]⟩]) (.int .i64 5)).run Tryz.prog W=.ok (.string ⟨#[83,113,114,116]⟩) W:=fun _=>by kernel_rfl
       by_cases h:(([83,113,114,116]:List UInt8)==s.toList)=true
       ·have H:=jac h;go_wp2;go_ret;exact ⟨by have h1:=H.out;simp [jaw,jkY,eq_of_beq h1],hg⟩
       ·have h':(([83,113,114,116]:List UInt8)==s.toList)=false:=by simpa using h
        have H:=jac h';clear h;go_wp2;go_roundw
        case rel=>exact ⟨hg,6,by omega,by go_num,jck HNO.out rfl H.out⟩
        case measure=>simp [intOf]
      ·have ix:∀ W,(Instr.index 180 (.agg #[.string ⟨#[73,100,101,110,116,105,116,121]⟩,.string ⟨#[78,101,103]⟩,.string ⟨#[65,98,115]⟩,.string ⟨#[78,111,116]⟩,.string ⟨#[82,101,108,117]⟩,.string ⟨#[83,113,114,116]⟩,.string ⟨#[70,108,111,111,114]⟩,.string ⟨#[69,120,112]⟩,.string ⟨#[83,105,103,109,111,105,100]⟩,.string ⟨#[84,97,110,104]⟩]) (.int .i64 6)).run Tryz.prog W=.ok (.string ⟨#[70,108,111,111,114]⟩) W:=fun _=>by kernel_rfl
       by_cases h:(([70,108,111,111,114]:List UInt8)==s.toList)=true
       ·have H:=jac h;go_wp2;go_ret;exact ⟨by have h1:=H.out;simp [jaw,jkY,eq_of_beq h1],hg⟩
       ·have h':(([70,108,111,111,114]:List UInt8)==s.toList)=false:=by simpa using h
        have H:=jac h';clear h;go_wp2;go_roundw
        case rel=>exact ⟨hg,7,by omega,by go_num,jck HNO.out rfl H.out⟩
        case measure=>simp [intOf]
      ·have ix:∀ W,(Instr.index 180 (.agg #[.string ⟨#[73,100,101,110,116,105,116,121]⟩,.string ⟨#[78,101,103]⟩,.string ⟨#[65,98,115]⟩,.string ⟨#[78,111,116]⟩,.string ⟨#[82,101,108,117]⟩,.string ⟨#[83,113,114,116]⟩,.string ⟨#[70,108,111,111,114]⟩,.string ⟨#[69,120,112]⟩,.string ⟨#[83,105,103,109,111,105,100]⟩,.string ⟨#[84,97,110,104]⟩]) (.int .i64 7)).run Tryz.prog W=.ok (.string ⟨#[69,120,112]⟩) W:=fun _=>by kernel_rfl
       by_cases h:(([69,120,112]:List UInt8)==s.toList)=true
       ·have H:=jac h;go_wp2;go_ret;exact ⟨by have h1:=H.out;simp [jaw,jkY,eq_of_beq h1],hg⟩
       ·have h':(([69,120,112]:List UInt8)==s.toList)=false:=by simpa using h
        have H:=jac h';clear h;go_wp2;go_roundw
        case rel=>exact ⟨hg,8,by omega,by go_num,jck HNO.out rfl H.out⟩
        case measure=>simp [intOf]
      ·have ix:∀ W,(Instr.index 180 (.agg #[.string ⟨#[73,100,101,110,116,105,116,121]⟩,.string ⟨#[78,101,103]⟩,.string ⟨#[65,98,115]⟩,.string ⟨#[78,111,116]⟩,.string ⟨#[82,101,108,117]⟩,.string ⟨#[83,113,114,116]⟩,.string ⟨#[70,108,111,111,114]⟩,.string ⟨#[69,120,112]⟩,.string ⟨#[83,105,103,109,111,105,100]⟩,.string ⟨#[84,97,110,104]⟩]) (.int .i64 8)).run Tryz.prog W=.ok (.string ⟨#[83,105,103,109,111,105,100]⟩) W:=fun _=>by kernel_rfl
       by_cases h:(([83,105,103,109,111,105,100]:List UInt8)==s.toList)=true
       ·have H:=jac h;go_wp2;go_ret;exact ⟨by have h1:=H.out;simp [jaw,jkY,eq_of_beq h1],hg⟩
       ·have h':(([83,105,103,109,111,105,100]:List UInt8)==s.toList)=false:=by simpa using h
        have H:=jac h';clear h;go_wp2;go_roundw
        case rel=>exact ⟨hg,9,by omega,by go_num,jck HNO.out rfl H.out⟩
        case measure=>simp [intOf]
      ·have ix:∀ W,(Instr.index 180 (.agg #[.string ⟨#[73,100,101,110,116,105,116,121]⟩,.string ⟨#[78,101,103]⟩,.string ⟨#[65,98,115]⟩,.string ⟨#[78,111,116]⟩,.string ⟨#[82,101,108,117]⟩,.string ⟨#[83,113,114,116]⟩,.string ⟨#[70,108,111,111,114]⟩,.string ⟨#[69,120,112]⟩,.string ⟨#[83,105,103,109,111,105,100]⟩,.string ⟨#[84,97,110,104]⟩]) (.int .i64 9)).run Tryz.prog W=.ok (.string ⟨#[84,97,110,104]⟩) W:=fun _=>by kernel_rfl
       by_cases h:(([84,97,110,104]:List UInt8)==s.toList)=true
       ·have H:=jac h;go_wp2;go_ret;exact ⟨by have h1:=H.out;simp [jaw,jkY,eq_of_beq h1],hg⟩
       ·have h':(([84,97,110,104]:List UInt8)==s.toList)=false:=by simpa using h
        have H:=jac h';clear h;go_wp2;go_roundw
        case rel=>exact ⟨hg,10,by omega,by go_num,jck HNO.out rfl H.out⟩
        case measure=>simp [intOf]
      ·go_wp2;go_ret;exact ⟨by have h1:=HNO.out;rw [show jaw s=(jkY.take 10).any (fun n=>n==s.toList) from rfl,h1];rfl,hg⟩
end Go.Proofs.YteigfipgmghgmaaGreatDoor
namespace Go.Proofs.YteigfipgmghgmaaGreatDoor
open Go.RowKit
def pcs:List UInt8→List (List UInt8)
 | []=>[[]]
 | c::l=>if c=44 then []::pcs l else match pcs l with
  | []=>[[c]]
  | p::ps=>(c::p)::ps
theorem jkZ:∀ {l:List UInt8},(∀ k:Nat,l[k]?≠some 44)→pcs l=[l]
 | [],_=>rfl
 | c::l,h=>by
  have h0:c≠44:=fun e=>h 0 (by simp [e]);have h1:∀ k:Nat,l[k]?≠some 44:=fun k=>by have:=h (k+1);simpa using this
  rw [pcs,if_neg h0,jkZ h1]
theorem jmZ:∀ {l:List UInt8} {i:Nat},l[i]?=some 44→(∀ k,k<i→l[k]?≠some 44)→pcs l=l.take i::pcs (l.drop (i+1))
 | [],i,h,_=>by simp at h
 | c::l,0,h,_=>by
  have h0:c=44:=by simpa using h
  rw [pcs,if_pos h0];simp
 | c::l,i+1,h,hn=>by
  have h0:c≠44:=fun e=>hn 0 (by omega) (by simp [e]);have h1:=jmZ (l:=l) (i:=i) (by simpa using h) (fun k hk=>by have:=hn (k+1) (by omega);simpa using this);rw [pcs,if_neg h0,h1];simp
theorem jjJ:∀ l:List UInt8,(pcs l).length≤l.length+1
 | []=>Nat.le_refl _
 | c::l=>by
  have h:=jjJ l;rw [pcs]
  split
  ·simpa using h
  ·split
   ·simp
   ·rename_i p ps e;rw [e] at h;simp at h ⊢;omega
abbrev jgo (s:ByteArray):List Value:=[.string s]
abbrev jp6 (w:World) (base:Nat) (v:Value) (xs:List ByteArray):Prop:=jaW 9 1 jgo w base v xs
theorem jsz:(Tryz.prog.info? 9).map (fun i=>(i.zero,i.size,i.bytes))=some (some (.string ⟨#[]⟩),1,16):=by kernel_rfl
def B (l:List UInt8):ByteArray:=⟨l.toArray⟩
def jfB (o:Option Atr):Int:=match o with
 | none=>0
 | some a=>if (pcs a.s.data.toList).all (fun p=>jaw (B p)) then 0 else 4
def jen (o:Option Atr):List ByteArray:=match o with
 | none=>[]
 | some a=>if (pcs a.s.data.toList).all (fun p=>jaw (B p)) then (pcs a.s.data.toList).map B else []
theorem jlD (s:ByteArray) (i:Nat):s.extract 0 i=B (s.data.toList.take i):=by
 unfold B;rw [Lib.extract_eq];simp
theorem jlE (s:ByteArray) (i:Nat):s.extract i s.size=B (s.data.toList.drop i):=by
 unfold B;rw [Lib.extract_eq];have:(s.data.toList.drop i).take (s.size - i)=s.data.toList.drop i:=List.take_of_length_le (by simp);rw [this]
theorem jm0 (l:List UInt8):(B l).size=l.length:=by show l.toArray.size=_;simp
theorem jr1 (l:List UInt8):(B l).data.toList=l:=by simp [B]
theorem jk0 (s:ByteArray):B s.data.toList=s:=Lib.mk_data s
theorem jp7 {a:Atr} {acc:List (List UInt8)} (h:pcs a.s.data.toList=acc) (hall:acc.all (fun p=>jaw (B p))=true):jfB (some a)=0∧jen (some a)=acc.map B:=by
 subst h;unfold jfB jen;simp only [hall,if_true,and_self]
theorem jk1 {a:Atr} {acc q:List (List UInt8)} {p:List UInt8} (h:pcs a.s.data.toList=acc++p::q) (hp:jaw (B p)=false):jfB (some a)=4∧jen (some a)=[]:=by
 have:(pcs a.s.data.toList).all (fun p=>jaw (B p))=false:=by rw [h];simp [hp]
 unfold jfB jen;simp [this]
theorem jk2 {w:World} {base:Nat} {e:TypeId} {v:Value} {n:Nat} {xs:List Value} (h:w.ownsRow base e 1 v n xs):∃ a c,v=.slice a n c:=by
 rcases h.2 with ⟨rfl,rfl⟩ | ⟨g,cap,cur,rfl,_⟩
 ·exact ⟨_,_,rfl⟩
 ·exact ⟨_,_,rfl⟩
theorem jiw {w:World} {base:Nat} {v:Value} {acc:List (List UInt8)} {p:List UInt8} {n:Nat} (hn:n=(acc.map B).length+1) (h:w.ownsRow base 9 1 v n ((acc.map B).flatMap jgo++[.string (B p)])):jp6 w base v ((acc++[p]).map B):=by
 subst hn;unfold jp6 jaW;simpa using h
theorem jcp (nm:ByteArray) (kd:Int) (w:World) :
    Calls Tryz.prog 58 #[.string nm,.int .i64 kd] w fun e w'=>e=.returned (.func (.func 91) #[] #[.pointer (some ⟨w.heap.size,0,none⟩),.pointer (some ⟨w.heap.size+1,0,none⟩)])∧w'.heap[w.heap.size]?=some (.cells #[.string nm] 9 (0,0))∧w'.heap[w.heap.size+1]?=some (.cells #[.int .i64 kd] 3 (0,0))∧w.grownBy w' none:=by
     have BX:=jac (jbi w (.cells #[.string nm] 9) (.cells #[.int .i64 kd] 3));go_enter Tryz.func58,Tryz.ntmps58;go_wp2;go_ret;exact ⟨rfl,BX.out.1,BX.out.2,jaa (jab _ _) (jab _ _)⟩
theorem jk3 (n:Nod) (xs:List Atr) (w:World) (hl:Laid w) (hv:jbR w n.av.v xs) (hsz:∀ a∈xs,a.s.size≤4294967296) :
    Calls Tryz.prog 76 #[jaz n] w fun e w'=>∃ v,e=.returned (.tuple #[v,.int .i64 (jfB (xs.find? (isA ⟨#[116,104,101,110]⟩ 3)))])∧jp6 w' w.heap.size v (jen (xs.find? (isA ⟨#[116,104,101,110]⟩ 3)))∧w.grownBy w' none:=by
     have HL:=jac hl;have HV:=jac hv;have FN:=jac (fun (p q:Nat) (wx:World) (hg:w.grownBy wx none) (hp:wx.heap[p]?=some (.cells #[.string ⟨#[116,104,101,110]⟩] 9 (0,0))) (hq:wx.heap[q]?=some (.cells #[.int .i64 3] 3 (0,0)))=>jcd n xs p q ⟨#[116,104,101,110]⟩ 3 wx (HV.out.more hg) hp hq);obtain ⟨op,nam,⟨ia,il,ic⟩,out,⟨ao,al,cap⟩⟩:=n;unfold jaz at FN ⊢;simp only at FN ⊢;clear hl hv;obtain ⟨w0,hw0⟩ : ∃ w0,w0=w.alloc (.cells #[.string op,.string nam,.slice ia il ic,.string out,.slice ao al cap] 25):=⟨_,rfl⟩
     have g0:w.grownBy w0 none:=by rw [hw0];exact jab _ _
     have hb0:=heap_alloc_new w (.cells #[.string op,.string nam,.slice ia il ic,.string out,.slice ao al cap] 25);rw [← hw0] at hb0;have HZ0:Hid (w0.heap.size=w.heap.size+1):=by rw [hw0];simp [Hid]
     have BX:Hid (∀ wx,w0.grownBy wx none→wx.heap[w.heap.size]?=some (.cells #[.string op,.string nam,.slice ia il ic,.string out,.slice ao al cap] 25 (0,0))):=fun wx hg=>jag hb0 hg;clear hb0
     cases hf:xs.find? (isA ⟨#[116,104,101,110]⟩ 3) with
     | none =>
      clear hsz;rw [hf] at FN;simp only [Option.getD_none,jlB,jcM,Option.isSome_none] at FN;go_enter Tryz.func76,Tryz.ntmps76;go_wp2;rw [← hw0];clear hw0;obtain ⟨n0,n1,n2,n3,n4⟩:=jak (n:=⟨op,nam,⟨ia,il,ic⟩,out,⟨ao,al,cap⟩⟩) (BX.out w0 (jad _));have gd:=jaf (jad w0);go_region_held3 (fun w'=>w'.cell? ⟨w.heap.size,0,none⟩=some (.string op)∧w'.cell? ⟨w.heap.size,1,none⟩=some (.string nam)∧w'.cell? ⟨w.heap.size,2,none⟩=some (.slice ia il ic)∧w'.cell? ⟨w.heap.size,3,none⟩=some (.string out)∧w'.cell? ⟨w.heap.size,4,none⟩=some (.slice ao al cap)) (go_keep) (first | (go_at_call 58;refine (jcp _ _ _).mono ?_;rintro e w1 ⟨rfl,hp1,hq1,hg1⟩;have g01:w0.grownBy w1 none:=(by first | exact jaa gd hg1 | exact jaa (jaa gd (jab _ _)) hg1);obtain ⟨n0,n1,n2,n3,n4⟩:=jak (n:=⟨op,nam,⟨ia,il,ic⟩,out,⟨ao,al,cap⟩⟩) (BX.out w1 g01);have hz1:w.heap.size≠w1.heap.size:=(by have:=g01.size;have:=HZ0.out;omega);have hzz:w.heap.size≠w0.heap.size:=(by have:=HZ0.out;omega);have hz1':=hz1.symm;have hzz':=hzz.symm;try (have hp2:w1.heap[w0.heap.size+1]?=some (.cells #[.string ⟨#[116,104,101,110]⟩] 9 (0,0)):=(by have h:=hp1;rw [show ((w0.alloc (.cells #[.string ⟨#[]⟩,.int .i64 0,.int .i64 0,.int .i64 0,.string ⟨#[]⟩,.int .i64 0,.slice none 0 0,.slice none 0 0,.slice none 0 0] 92)).drew).heap.size=w0.heap.size+1 by simp] at h;exact h));try (have hq2:w1.heap[w0.heap.size+1+1]?=some (.cells #[.int .i64 3] 3 (0,0)):=(by have h:=hq1;rw [show ((w0.alloc (.cells #[.string ⟨#[]⟩,.int .i64 0,.int .i64 0,.int .i64 0,.string ⟨#[]⟩,.int .i64 0,.slice none 0 0,.slice none 0 0,.slice none 0 0] 92)).drew).heap.size=w0.heap.size+1 by simp] at h;exact h));try (have kz:w1.heap[w0.heap.size]?=some (.cells #[.string ⟨#[]⟩,.int .i64 0,.int .i64 0,.int .i64 0,.string ⟨#[]⟩,.int .i64 0,.slice none 0 0,.slice none 0 0,.slice none 0 0] 92 (0,0)):=jag (show ((w0.alloc (.cells #[.string ⟨#[]⟩,.int .i64 0,.int .i64 0,.int .i64 0,.string ⟨#[]⟩,.int .i64 0,.slice none 0 0,.slice none 0 0,.slice none 0 0] 92)).drew).heap[w0.heap.size]?=_ from heap_alloc_new w0 _) hg1)) | (go_at_call 57;refine (FN.out _ _ _ (by first | exact jaa g0 g01 | exact jaa (jaa g0 g01) (jab _ _)) (by first | exact hp1 | exact hp2 | exact jag hp1 (jab _ _)) (by first | exact hq1 | exact hq2 | exact jag hq1 (jab _ _))).mono ?_;rintro e w2 ⟨rfl,hg2⟩;have g02:w0.grownBy w2 none:=(by first | exact jaa g01 hg2 | exact jaa (jaa g01 (jab _ _)) hg2);obtain ⟨n0,n1,n2,n3,n4⟩:=jak (n:=⟨op,nam,⟨ia,il,ic⟩,out,⟨ao,al,cap⟩⟩) (BX.out w2 g02);try (first | have kz2:=jag kz hg2 | have kz2:w2.heap[w1.heap.size]?=some (.cells #[.string ⟨#[]⟩,.int .i64 0,.int .i64 0,.int .i64 0,.string ⟨#[]⟩,.int .i64 0,.slice none 0 0,.slice none 0 0,.slice none 0 0] 92 (0,0)):=jag (heap_alloc_new w1 _) hg2);try (obtain ⟨f0,f1,f2,f3,f4,f5,f6,f7,f8⟩:=jbF kz2);try (obtain ⟨k0,k1,k2,k3,k4,k5,k6,k7,k8⟩:=jaR (a:=jcM) kz2)))
      ·have gX:=jaa (jaa g0 g02) (jab w2 (.cells #[.string ⟨#[]⟩,.int .i64 0,.int .i64 0,.int .i64 0,.string ⟨#[]⟩,.int .i64 0,.slice none 0 0,.slice none 0 0,.slice none 0 0] 92));have GX:=jac gX;clear gX;go_wp2;go_ret2;exact ⟨_,rfl,jaW.nil _ _ _ _ _,GX.out⟩
      ·obtain ⟨-,gX⟩:=jb9 (.string ⟨#[]⟩) (.int .i64 0) (.int .i64 0) (.int .i64 0) (.string ⟨#[]⟩) (.int .i64 0) (.slice none 0 0) (.slice none 0 0) (.slice none 0 0) (jaa g0 g02) (show w.heap.size≤w1.heap.size by have:=g01.size;have:=HZ0.out;omega) kz2;have GX:=jac gX;clear gX;go_wp2;go_ret2;exact ⟨_,rfl,jaW.nil _ _ _ _ _,GX.out⟩
      ·obtain ⟨-,gX⟩:=jb9 (.string ⟨#[]⟩) (.int .i64 0) (.int .i64 0) (.int .i64 0) (.string ⟨#[]⟩) (.int .i64 0) (.slice none 0 0) (.slice none 0 0) (.slice none 0 0) (jaa g0 g02) (show w.heap.size≤w0.heap.size by have:=HZ0.out;omega) kz2;have GX:=jac gX;clear gX;go_wp2;go_ret2;exact ⟨_,rfl,jaW.nil _ _ _ _ _,GX.out⟩
     | some a =>
      have hbig:a.s.size≤4294967296:=hsz a (List.mem_of_find?_eq_some hf);rw [hf] at FN;simp only [Option.getD_some,jlB,Option.isSome_some] at FN;clear hf hsz;go_enter Tryz.func76,Tryz.ntmps76;go_wp2;rw [← hw0];clear hw0;go_cut [4,5] from 10 (fun p b wx=>∃ N:Nat,p=.pointer (some ⟨N,0,none⟩)∧b=.bool true∧wx.heap[N]?=some (.cells #[.string a.name,.int .i64 a.kind,.int .i64 a.f,.int .i64 a.i,.string a.s,.int .i64 a.ty,.slice a.dv.a a.dv.n a.dv.c,.slice a.tv.a a.tv.n a.tv.c,.slice a.iv.a a.iv.n a.iv.c] 92 (0,0))∧w.grownBy wx none)
      case first =>
       obtain ⟨n0,n1,n2,n3,n4⟩:=jak (n:=⟨op,nam,⟨ia,il,ic⟩,out,⟨ao,al,cap⟩⟩) (BX.out w0 (jad _));have gd:=jaf (jad w0);go_region_held3 (fun w'=>w'.cell? ⟨w.heap.size,0,none⟩=some (.string op)∧w'.cell? ⟨w.heap.size,1,none⟩=some (.string nam)∧w'.cell? ⟨w.heap.size,2,none⟩=some (.slice ia il ic)∧w'.cell? ⟨w.heap.size,3,none⟩=some (.string out)∧w'.cell? ⟨w.heap.size,4,none⟩=some (.slice ao al cap)) (go_keep) (first | (go_at_call 58;refine (jcp _ _ _).mono ?_;rintro e w1 ⟨rfl,hp1,hq1,hg1⟩;have g01:w0.grownBy w1 none:=(by first | exact jaa gd hg1 | exact jaa (jaa gd (jab _ _)) hg1);obtain ⟨n0,n1,n2,n3,n4⟩:=jak (n:=⟨op,nam,⟨ia,il,ic⟩,out,⟨ao,al,cap⟩⟩) (BX.out w1 g01);have hz1:w.heap.size≠w1.heap.size:=(by have:=g01.size;have:=HZ0.out;omega);have hzz:w.heap.size≠w0.heap.size:=(by have:=HZ0.out;omega);have hz1':=hz1.symm;have hzz':=hzz.symm;try (have hp2:w1.heap[w0.heap.size+1]?=some (.cells #[.string ⟨#[116,104,101,110]⟩] 9 (0,0)):=(by have h:=hp1;rw [show ((w0.alloc (.cells #[.string ⟨#[]⟩,.int .i64 0,.int .i64 0,.int .i64 0,.string ⟨#[]⟩,.int .i64 0,.slice none 0 0,.slice none 0 0,.slice none 0 0] 92)).drew).heap.size=w0.heap.size+1 by simp] at h;exact h));try (have hq2:w1.heap[w0.heap.size+1+1]?=some (.cells #[.int .i64 3] 3 (0,0)):=(by have h:=hq1;rw [show ((w0.alloc (.cells #[.string ⟨#[]⟩,.int .i64 0,.int .i64 0,.int .i64 0,.string ⟨#[]⟩,.int .i64 0,.slice none 0 0,.slice none 0 0,.slice none 0 0] 92)).drew).heap.size=w0.heap.size+1 by simp] at h;exact h));try (have kz:w1.heap[w0.heap.size]?=some (.cells #[.string ⟨#[]⟩,.int .i64 0,.int .i64 0,.int .i64 0,.string ⟨#[]⟩,.int .i64 0,.slice none 0 0,.slice none 0 0,.slice none 0 0] 92 (0,0)):=jag (show ((w0.alloc (.cells #[.string ⟨#[]⟩,.int .i64 0,.int .i64 0,.int .i64 0,.string ⟨#[]⟩,.int .i64 0,.slice none 0 0,.slice none 0 0,.slice none 0 0] 92)).drew).heap[w0.heap.size]?=_ from heap_alloc_new w0 _) hg1)) | (go_at_call 57;refine (FN.out _ _ _ (by first | exact jaa g0 g01 | exact jaa (jaa g0 g01) (jab _ _)) (by first | exact hp1 | exact hp2 | exact jag hp1 (jab _ _)) (by first | exact hq1 | exact hq2 | exact jag hq1 (jab _ _))).mono ?_;rintro e w2 ⟨rfl,hg2⟩;have g02:w0.grownBy w2 none:=(by first | exact jaa g01 hg2 | exact jaa (jaa g01 (jab _ _)) hg2);obtain ⟨n0,n1,n2,n3,n4⟩:=jak (n:=⟨op,nam,⟨ia,il,ic⟩,out,⟨ao,al,cap⟩⟩) (BX.out w2 g02);try (first | have kz2:=jag kz hg2 | have kz2:w2.heap[w1.heap.size]?=some (.cells #[.string ⟨#[]⟩,.int .i64 0,.int .i64 0,.int .i64 0,.string ⟨#[]⟩,.int .i64 0,.slice none 0 0,.slice none 0 0,.slice none 0 0] 92 (0,0)):=jag (heap_alloc_new w1 _) hg2);try (obtain ⟨f0,f1,f2,f3,f4,f5,f6,f7,f8⟩:=jbF kz2);try (obtain ⟨k0,k1,k2,k3,k4,k5,k6,k7,k8⟩:=jaR (a:=jcM) kz2)))
       ·have GG:=jac (jaa g0 g02);go_wp2_with fail
        go_meet
        exact ⟨_,rfl,rfl,heap_alloc_new w2 _,jaa GG.out (jab w2 _)⟩
       ·obtain ⟨hX,gX⟩:=jb9 (.string a.name) (.int .i64 a.kind) (.int .i64 a.f) (.int .i64 a.i) (.string a.s) (.int .i64 a.ty) (.slice a.dv.a a.dv.n a.dv.c) (.slice a.tv.a a.tv.n a.tv.c) (.slice a.iv.a a.iv.n a.iv.c) (jaa g0 g02) (show w.heap.size≤w1.heap.size by have:=g01.size;have:=HZ0.out;omega) kz2;have HX:=jac hX;have GX:=jac gX;clear hX gX;go_wp2_with fail
        go_meet
        exact ⟨_,rfl,rfl,HX.out,GX.out⟩
       ·obtain ⟨hX,gX⟩:=jb9 (.string a.name) (.int .i64 a.kind) (.int .i64 a.f) (.int .i64 a.i) (.string a.s) (.int .i64 a.ty) (.slice a.dv.a a.dv.n a.dv.c) (.slice a.tv.a a.tv.n a.tv.c) (.slice a.iv.a a.iv.n a.iv.c) (jaa g0 g02) (show w.heap.size≤w0.heap.size by have:=HZ0.out;omega) kz2;have HX:=jac hX;have GX:=jac gX;clear hX gX;go_wp2_with fail
        go_meet
        exact ⟨_,rfl,rfl,HX.out,GX.out⟩
      case rest =>
       obtain ⟨N,rfl,rfl,hN,hg⟩:=hcut;obtain ⟨-,-,-,-,cS,-⟩:=jaR hN;clear hN;have LA:=jac (HL.out.more hg);have HG:=jac hg;obtain ⟨i0,hi,hz0,hz1,hz2⟩:=info_parts jsz;clear hg HL HV FN BX HZ0 g0;go_wp2_with fail;go_loopg [6,7,8] (a.s.size+1) (fun f lv rv mv wr=>∃ (acc:List (List UInt8)) (R:List UInt8) (more:Bool) (v:Value),lv=v∧rv=.string (B R)∧mv=.bool more∧f=(if more then R.length+1 else 0)∧R.length≤a.s.size∧jp6 wr wc.heap.size v (acc.map B)∧acc.all (fun p=>jaw (B p))=true∧pcs a.s.data.toList=acc++(if more then pcs R else [])∧wc.grownBy wr none)
       case atStart=>exact ⟨[],a.s.data.toList,true,_,rfl,by rw [jk0],rfl,by simp,by simp,jaW.nil _ _ _ _ _,rfl,rfl,jad _⟩
       case round =>
        obtain ⟨acc,R,more,v,rfl,rfl,rfl,rfl,hR,hown,hall,hpcs,hw⟩:=hrel;have HO:=jac hown;have HA:=jac hall;have HP:=jac hpcs;obtain ⟨va,vc,ev⟩:=jaW.form hown;rw [List.length_map] at ev;subst ev
        have hlen:acc.length≤a.s.size+1:=by
         have h1:=jjJ a.s.data.toList;rw [hpcs,List.length_append] at h1;simp at h1;omega
        clear hown hall hpcs cS
        cases more with
        | false =>
         have hpc:pcs a.s.data.toList=acc:=by have:=HP.out;simpa using this
         obtain ⟨t1,t2⟩:=jp7 hpc HA.out;have HT1:=jac t1;have HT2:=jac t2;clear hpc t1 t2;go_wp2;go_ret2;exact ⟨_,by rw [HT1.out];rfl,by rw [HT2.out];exact HO.out.base_le HG.out.size,jaa HG.out hw⟩
        | true =>
         have hBs:(B R).size=R.length:=jm0 R;have HBS:=jac hBs;have CU:=jac (jsy (B R) wr (by omega));clear hBs;go_wp2_with fail;refine CU.out.mono ?_;rintro e w5 ⟨hc,hg5⟩;have g5:=jaa hw hg5
         rcases hc with ⟨i,hi1,hi2,hi3,rfl⟩ | ⟨hno,rfl⟩
         ·have eR:(B R).data.toList=R:=jr1 R;rw [eR] at hi2 hi3;rw [HBS.out] at hi1;rw [jlD,jlE,eR]
          have HPC:Hid (pcs a.s.data.toList=acc++R.take i::pcs (R.drop (i+1))):=by
           have h1:=HP.out;rw [if_pos trivial,jmZ hi2 hi3] at h1;exact h1
          clear hi2 hi3 eR;have OO:=jac (fun (wx:World) (hx:wc.grownBy wx none)=>jar (B (R.take i)) wx (LA.out.more hx));have CL:=jac (fun (wx:World)=>jdA (B (R.take i)) wx (by rw [jm0];simp;omega));go_wp2_with fail;refine (OO.out w5 g5).mono ?_;rintro e w6 ⟨rfl,hg6⟩;have g6:=jaa g5 hg6
          cases ht:jaw (B (R.take i)) with
          | false =>
           obtain ⟨t1,t2⟩:=jk1 HPC.out ht;have HT1:=jac t1;have HT2:=jac t2;clear t1 t2 ht;go_wp2;go_ret2;exact ⟨_,by rw [HT1.out];rfl,by rw [HT2.out];exact jaW.nil _ _ _ _ _,jaa HG.out g6⟩
          | true =>
           have HT:=jac ht;clear ht;go_wp2_with fail;refine (CL.out w6).mono ?_;rintro e w7 ⟨rfl,hb7⟩;have g7:=jaa g6 hb7;have HO7:=jac (HO.out.more (jaa (jaa hg5 hg6) hb7));have hsz7:=g7.size;go_wp2_with (at_builtin;refine wpList_append_own _ rfl (.tmp 30) (.tmp 33) 22 rfl wc.heap.size 9 i0 (.string ⟨#[]⟩) 1 16 Tryz.underlying22 hi hz0 hz1 hz2 rfl (by decide) _ _ _ rfl (by exact World.ownsRow.alloc HO7.out _) ⟨w7.heap.size,0,none⟩ 1 1 [.string (B (R.take i))] rfl rfl (cell_one_new _ _ _) (by simp [Value.oneCell']) (by simp only [maxLen,List.length_map];omega) (by simp only [List.length_map];omega) (by simp;omega) ?_;intro v' w8 hown' hgrow _;obtain ⟨na,nc,rfl⟩:=jk2 hown';have HO8:=jac (jiw rfl hown');have g8:=jan (jaa g7 (jab _ _)) hgrow (fun g hg'=>(World.ownsRow.lt HO7.out g hg').1);clear hown' hgrow);go_wp2;go_roundg ((R.drop (i+1)).length+1)
           case measure=>simp;omega
           case rel=>exact ⟨acc++[R.take i],R.drop (i+1),true,_,rfl,rfl,rfl,by simp,by simp;omega,(by have h:=HO8.out;rw [List.length_map] at h;exact h),by simp [HA.out,HT.out],by rw [HPC.out];simp,g8⟩
         ·have eR:(B R).data.toList=R:=jr1 R;rw [eR] at hno
          have HPC:Hid (pcs a.s.data.toList=acc++R::[]):=by
           have h1:=HP.out;rw [if_pos trivial,jkZ hno] at h1;exact h1
          clear hno eR;have OO:=jac (fun (wx:World) (hx:wc.grownBy wx none)=>jar (B (R)) wx (LA.out.more hx));have CL:=jac (fun (wx:World)=>jdA (B (R)) wx (by rw [jm0];omega));go_wp2_with fail;refine (OO.out w5 g5).mono ?_;rintro e w6 ⟨rfl,hg6⟩;have g6:=jaa g5 hg6
          cases ht:jaw (B (R)) with
          | false =>
           obtain ⟨t1,t2⟩:=jk1 HPC.out ht;have HT1:=jac t1;have HT2:=jac t2;clear t1 t2 ht;go_wp2;go_ret2;exact ⟨_,by rw [HT1.out];rfl,by rw [HT2.out];exact jaW.nil _ _ _ _ _,jaa HG.out g6⟩
          | true =>
           have HT:=jac ht;clear ht;go_wp2_with fail;refine (CL.out w6).mono ?_;rintro e w7 ⟨rfl,hb7⟩;have g7:=jaa g6 hb7;have HO7:=jac (HO.out.more (jaa (jaa hg5 hg6) hb7));have hsz7:=g7.size;go_wp2_with (at_builtin;refine wpList_append_own _ rfl (.tmp 30) (.tmp 33) 22 rfl wc.heap.size 9 i0 (.string ⟨#[]⟩) 1 16 Tryz.underlying22 hi hz0 hz1 hz2 rfl (by decide) _ _ _ rfl (by exact World.ownsRow.alloc HO7.out _) ⟨w7.heap.size,0,none⟩ 1 1 [.string (B (R))] rfl rfl (cell_one_new _ _ _) (by simp [Value.oneCell']) (by simp only [maxLen,List.length_map];omega) (by simp only [List.length_map];omega) (by simp;omega) ?_;intro v' w8 hown' hgrow _;obtain ⟨na,nc,rfl⟩:=jk2 hown';have HO8:=jac (jiw rfl hown');have g8:=jan (jaa g7 (jab _ _)) hgrow (fun g hg'=>(World.ownsRow.lt HO7.out g hg').1);clear hown' hgrow);go_wp2;go_roundg (0)
           case measure=>simp
           case rel=>exact ⟨acc++[R],[],false,_,rfl,rfl,rfl,by simp,by simp,(by have h:=HO8.out;rw [List.length_map] at h;exact h),by simp [HA.out,HT.out],by rw [HPC.out];simp,g8⟩
end Go.Proofs.YteigfipgmghgmaaGreatDoor
namespace Go.Proofs.YteigfipgmghgmaaGreatDoor
open Go.RowKit
structure Ra where
 name:ByteArray
 kind:Int
 must:Bool
def jfC (r:Ra):List Value:=[.string r.name,.int .i64 r.kind,.bool r.must]
theorem jeW (r:Ra):(jfC r).length=3:=rfl
abbrev jlF (w:World) (base:Nat) (v:Value) (xs:List Ra):Prop:=jaW 161 3 jfC w base v xs
theorem jul:(Tryz.prog.info? 161).map (fun i=>(i.zero,i.size,i.bytes))=some (some (.agg #[.string ⟨#[]⟩,.int .i64 0,.bool false]),3,32):=by kernel_rfl
theorem jum:(Tryz.prog.info? 161).map (·.size)=some 3:=by kernel_rfl
theorem jr2 {fn : Func} {p : Tmp} (h : fn.results = #[.cell p 161]) (tmps : Array Value) (w : World) (B : Nat) (hp : tmps.getD p undef = .pointer (some ⟨B, 0, none⟩)) {a b c : Value}
    (hb:w.heap[B]?=some (.cells #[a,b,c] 161 (0,0))):(results fn tmps).run Tryz.prog w=.ok (.agg #[a,b,c]) w :=
     results_cell_row h tmps w B 161 #[a,b,c] (0,0) _ hp hb Tryz.underlying161 rfl (by rw [jum];rfl)
theorem jaV (nm:ByteArray) (kd:Int) (w:World) :
    Calls Tryz.prog 137 #[.string nm,.int .i64 kd] w fun e w'=>e=.returned (.agg #[.string nm,.int .i64 kd,.bool false])∧w.grownBy w' none:=by
     go_enter Tryz.func137,Tryz.ntmps137;go_wp2;refine bodyPost_ret (jr2 rfl _ _ w.heap.size rfl (heap_alloc_new w _)) rfl ?_;exact ⟨rfl,jab _ _⟩
theorem jbO (nm:ByteArray) (kd:Int) (w:World) :
    Calls Tryz.prog 138 #[.string nm,.int .i64 kd] w fun e w'=>e=.returned (.agg #[.string nm,.int .i64 kd,.bool true])∧w.grownBy w' none:=by
     go_enter Tryz.func138,Tryz.ntmps138;go_wp2;refine bodyPost_ret (jr2 rfl _ _ w.heap.size rfl (heap_alloc_new w _)) rfl ?_;exact ⟨rfl,jab _ _⟩
def jat:Ra:=⟨⟨#[116,104,101,110]⟩,3,false⟩
theorem jk4:(Tryz.prog.info? 134).map (·.size)=some 3:=by kernel_rfl
theorem jp8 {fn : Func} {p : Tmp} (h : fn.results = #[.cell p 134]) (tmps : Array Value) (w : World) (B : Nat) (hp : tmps.getD p undef = .pointer (some ⟨B, 0, none⟩)) {a b c : Value}
    (hb:w.heap[B]?=some (.cells #[a,b,c] 134 (0,0))):(results fn tmps).run Tryz.prog w=.ok (.agg #[a,b,c]) w :=
     results_cell_row h tmps w B 134 #[a,b,c] (0,0) _ hp hb Tryz.underlying134 rfl (by rw [jk4];rfl)
def jpX (w:World) (v:Value) (xs:List Ra):Prop:=(xs=[]∧v=.slice none 0 0)∨∃ g cur,v=.slice (some ⟨g,0,none⟩) xs.length xs.length∧w.heap[g]?=some (.cells cur 161 (0,0))∧cur.toList=xs.flatMap jfC∧cur.size=xs.length*3
theorem jpX.owns {w:World} {v:Value} {xs:List Ra} (h:jpX w v xs) (hl:xs.length≤20):jlF w 0 v xs:=by
 rcases h with ⟨rfl,rfl⟩ | ⟨g,cur,rfl,hb,hc,hs⟩
 ·exact jaW.nil _ _ _ _ _
 ·refine ⟨jkX jeW xs,Or.inr ⟨g,xs.length,cur,rfl,Nat.zero_le _,hb,Nat.le_refl _,by simp only [maxLen];omega,hs,?_⟩⟩;rw [hc];exact List.take_of_length_le (by rw [jkX jeW];exact Nat.le_refl _)
theorem jpX.form {w:World} {v:Value} {xs:List Ra} (h:jpX w v xs):∃ a,v=.slice a xs.length xs.length:=by
 rcases h with ⟨rfl,rfl⟩ | ⟨g,cur,rfl,_⟩
 ·exact ⟨none,rfl⟩
 ·exact ⟨_,rfl⟩
theorem jpX.alloc {w:World} {v:Value} {xs:List Ra} (h:jpX w v xs) {w':World} (hg:w.grownBy w' none):jpX w' v xs:=by
 rcases h with h | ⟨g,cur,e,hb,r⟩
 ·exact Or.inl h
 ·exact Or.inr ⟨g,cur,e,jag hb hg,r⟩
def Taken (lo hi:Int) (xs:List Ra) (v:Value) (w w':World) (e:Ending):Prop :=
 ∃ a n c,e=.returned (.agg #[.int .i64 lo,.int .i64 hi,.slice a n c])∧jlF w' 0 (.slice a n c) xs∧∀ k,(Value.slice a n c).ownBlock=some k→v.ownBlock=some k∨w.heap.size≤k
theorem jc7 {a b c:World} {row:Option Nat} {B:Nat} (h:a.grownBy b row) (k:b.grownBy c (some B)) (hB:a.heap.size≤B):a.grownBy c row :=
 ⟨k.os.trans h.os,k.tape.trans h.tape,k.output.trans h.output,Nat.le_trans h.size k.size,fun i hi hn=>(k.block i (Nat.lt_of_lt_of_le hi h.size) (fun e=>by cases e;omega)).trans (h.block i hi hn)⟩
theorem jgp {a b c:World} {row:Option Nat} (h:a.grownBy b none) (k:b.grownBy c row):a.grownBy c row :=
 ⟨k.os.trans h.os,k.tape.trans h.tape,k.output.trans h.output,Nat.le_trans h.size k.size,fun i hi hn=>(k.block i (Nat.lt_of_lt_of_le hi h.size) hn).trans (h.block i hi (by simp))⟩
theorem jjK {w3:World} {B:Nat} {z0 z1 z2:Value} (a b c:Value) (hb:w3.heap[B]?=some (.cells #[z0,z1,z2] 134 (0,0))) :
    (((w3.setCell ⟨B,0,none⟩ a).setCell ⟨B,1,none⟩ b).setCell ⟨B,2,none⟩ c).heap[B]?=some (.cells #[a,b,c] 134 (0,0)) ∧
    w3.grownBy (((w3.setCell ⟨B,0,none⟩ a).setCell ⟨B,1,none⟩ b).setCell ⟨B,2,none⟩ c) (some B):=by
     have h1:=heap_setCell_same w3 B 0 _ _ a hb;have h2:=heap_setCell_same _ B 1 _ _ b h1;have h3:=heap_setCell_same _ B 2 _ _ c h2
     have g:∀ (x:World) (j:Nat) (v:Value),x.grownBy (x.setCell ⟨B,j,none⟩ v) (some B):=fun x j v =>
      ⟨rfl,rfl,rfl,by simp [World.setCell],fun k _ hk=>Below.heap_setCell _ _ _ _ (fun e=>hk (by rw [e]))⟩
     exact ⟨by simpa using h3,jbe (jbe (g w3 0 a) (g _ 1 b)) (g _ 2 c)⟩
theorem jam {w:World} {B:Nat} {a b c:Value} (hb:w.heap[B]?=some (.cells #[a,b,c] 134 (0,0))) :
    w.cell? ⟨B,0,none⟩=some a∧w.cell? ⟨B,1,none⟩=some b∧w.cell? ⟨B,2,none⟩=some c∧w.frozen? ⟨B,0,none⟩=false∧w.frozen? ⟨B,1,none⟩=false∧w.frozen? ⟨B,2,none⟩=false :=
     ⟨(cell_of_row _ _ 0 _ _ (0,0) hb).trans rfl,(cell_of_row _ _ 1 _ _ (0,0) hb).trans rfl,(cell_of_row _ _ 2 _ _ (0,0) hb).trans rfl,frozen_of_row w B 0 _ _ hb,frozen_of_row w B 1 _ _ hb,frozen_of_row w B 2 _ _ hb⟩
theorem jpX.lt {w:World} {v:Value} {xs:List Ra} (h:jpX w v xs):∀ k,v.ownBlock=some k→k<w.heap.size:=by
 intro k hk
 rcases h with ⟨_,rfl⟩ | ⟨g,cur,rfl,hb,_⟩
 ·cases hk
 ·cases hk
  exact (Array.getElem?_eq_some_iff.1 hb).1
theorem jau (lo hi:Int) (v:Value) (xs:List Ra) (w:World) (hv:jpX w v xs) (hl:xs.length≤20) :
    Calls Tryz.prog 136 #[.int .i64 lo,.int .i64 hi,v] w fun e w'=>Taken lo hi (xs++[jat]) v w w' e∧w.grownBy w' v.ownBlock:=by
     obtain ⟨i0,hi0,hz0,hz1,hz2⟩:=info_parts jul;have HV:=jac hv;obtain ⟨va,rfl⟩:=hv.form;obtain ⟨w0,hw0⟩ : ∃ w0,w0=w.alloc (.cells #[.int .i64 0,.int .i64 0,.slice none 0 0] 134):=⟨_,rfl⟩
     have g0:w.grownBy w0 none:=by rw [hw0];exact jab _ _
     have b0:=heap_alloc_new w (.cells #[.int .i64 0,.int .i64 0,.slice none 0 0] 134);rw [← hw0] at b0;have B0:=jac b0;clear hv b0;go_enter Tryz.func136,Tryz.ntmps136;go_wp2_with fail;rw [← hw0];clear hw0;refine (jaV _ _ _).mono ?_;rintro e w1 ⟨rfl,hg1⟩;have g1:=jaa g0 hg1;have L1:=jac ((HV.out.alloc g1).alloc (jab w1 (.cells #[.string ⟨#[116,104,101,110]⟩,.int .i64 3,.bool false] 161)));have B1:=jac (jag (jag B0.out hg1) (jab w1 (.cells #[.string ⟨#[116,104,101,110]⟩,.int .i64 3,.bool false] 161)));have LT:=jac HV.out.lt;go_wp2_with (at_builtin;refine wpList_append_lies _ rfl (.tmp 9) (.tmp 11) 132 rfl 0 161 i0 (.agg #[.string ⟨#[]⟩,.int .i64 0,.bool false]) 3 32 Tryz.underlying132 hi0 hz0 hz1 hz2 rfl (by decide) _ _ _ rfl (by exact L1.out.owns hl) ⟨w1.heap.size,0,none⟩ 1 1 (jfC jat) rfl rfl (by exact World.news_of_block (heap_alloc_new w1 _)) (by simp [jfC,Value.oneCell']) (by omega) (by simp only [maxLen];omega) (by omega) (Nat.zero_le _) (w1.heap.size+1) (by simp) ?_;intro g nc w6 hown' hgrow hat _;have hne:g≠w.heap.size:=(by rcases hat with h | h;(have:=LT.out _ h;omega);(have:=g1.size;omega));have HAT:=jac hat;have HNE:=jac hne;clear hne hat;have B6:=jac ((hgrow.block w.heap.size (Array.getElem?_eq_some_iff.1 B1.out).1 (fun e=>by have:=LT.out _ e.symm;omega)).trans B1.out);obtain ⟨r0,r1,r2,f0,f1,f2⟩:=jam B6.out;have HO6:=jac hown';have HG6:=jac hgrow;clear hown' hgrow);obtain ⟨hX,gX⟩:=jjK (.int .i64 lo) (.int .i64 hi) (.slice (some ⟨g,0,none⟩) (xs.length+1) nc) B6.out;have HX:=jac hX;have GX:=jac gX;clear hX gX;go_wp2;refine bodyPost_ret (jp8 rfl _ _ w.heap.size rfl HX.out) rfl ?_;refine ⟨⟨_,_,nc,rfl,?_,fun k hk=>?_⟩,?_⟩
     ·have h:=World.ownsRow.kept HO6.out GX.out (Or.inr (fun e=>HNE.out (by cases e;rfl)));unfold jlF jaW;rw [List.length_append,List.flatMap_append];simpa using h
     ·cases hk
      rcases HAT.out with h | h
      ·exact Or.inl h
      ·exact Or.inr (by have:=g1.size;show w.heap.size≤g;omega)
     ·exact jc7 (jgp (jaa g1 (jab _ _)) HG6.out) GX.out (Nat.le_refl _)
end Go.Proofs.YteigfipgmghgmaaGreatDoor
namespace Go.Proofs.YteigfipgmghgmaaGreatDoor
open Go.RowKit
def ja5 (r:Option (Int×Int×List Ra)) (w':World) (e:Ending):Prop:=match r with
 | none=>e=.returned (.tuple #[.agg #[.int .i64 0,.int .i64 0,.slice none 0 0],.bool false])
 | some (lo,hi,rs)=>∃ a n c,e=.returned (.tuple #[.agg #[.int .i64 lo,.int .i64 hi,.slice a n c],.bool true])∧jlF w' 0 (.slice a n c) rs
theorem jas {fn : Func} {p u : Tmp} (h : fn.results = #[.cell p 134, .tmp u]) (tmps : Array Value) (w : World) (B : Nat) (hp : tmps.getD p undef = .pointer (some ⟨B, 0, none⟩)) {a b c : Value}
    (hb:w.heap[B]?=some (.cells #[a,b,c] 134 (0,0))):(results fn tmps).run Tryz.prog w=.ok (.tuple #[.agg #[a,b,c],tmps.getD u undef]) w:=by
     have hl:=run_loadVar_row (P:=Tryz.prog) w B _ 134 #[a,b,c] (0,0) _ hb Tryz.underlying134 rfl (by rw [jk4];rfl);rw [results_cell_tmp h,hp];simp [asAddr,hl,Result.andThen]
theorem jax {w w0 w1 wx w6 : World} {row : Option Nat} {lo hi : Int} {a : Option Addr} {n c : Nat} {rs : List Ra} (hg0 : w.grownBy w0 none) (hb : w0.heap[w.heap.size]? = some (.cells #[.int .i64 0, .int .i64 0, .slice none 0 0] 134 (0, 0)))
    (hg1:w0.grownBy w1 none) (hgx:w1.grownBy wx none) (hg6:wx.grownBy w6 row) (hrow:∀ g,row=some g→w1.heap.size≤g) (ho:jlF w6 0 (.slice a n c) rs) (hne:(Value.slice a n c).ownBlock≠some w.heap.size) :
    w6.heap[w.heap.size]?=some (.cells #[.int .i64 0,.int .i64 0,.slice none 0 0] 134 (0,0)) ∧
    (((w6.setCell ⟨w.heap.size,0,none⟩ (.int .i64 lo)).setCell ⟨w.heap.size,1,none⟩ (.int .i64 hi)).setCell ⟨w.heap.size,2,none⟩ (.slice a n c)).heap[w.heap.size]?=some (.cells #[.int .i64 lo,.int .i64 hi,.slice a n c] 134 (0,0)) ∧
    jlF (((w6.setCell ⟨w.heap.size,0,none⟩ (.int .i64 lo)).setCell ⟨w.heap.size,1,none⟩ (.int .i64 hi)).setCell ⟨w.heap.size,2,none⟩ (.slice a n c)) 0 (.slice a n c) rs ∧
    w.grownBy (((w6.setCell ⟨w.heap.size,0,none⟩ (.int .i64 lo)).setCell ⟨w.heap.size,1,none⟩ (.int .i64 hi)).setCell ⟨w.heap.size,2,none⟩ (.slice a n c)) none:=by
     have hlt:=(Array.getElem?_eq_some_iff.1 hb).1;have b1:=jag (jag hb hg1) hgx;have s1:=hg1.size;have b6:w6.heap[w.heap.size]?=some (.cells #[.int .i64 0,.int .i64 0,.slice none 0 0] 134 (0,0)):=(hg6.block _ (Array.getElem?_eq_some_iff.1 b1).1 (fun e=>by have:=hrow _ e.symm;omega)).trans b1;obtain ⟨hX,gX⟩:=jjK (.int .i64 lo) (.int .i64 hi) (.slice a n c) b6;refine ⟨b6,hX,World.ownsRow.kept ho gX (Or.inr hne),?_⟩;have g6:w.grownBy w6 none:=jan (jaa (jaa hg0 hg1) hgx) hg6 (fun g e=>by have:=hrow g e;have:=(jaa hg0 hg1).size;omega);exact jc7 g6 gX (Nat.le_refl _)
theorem jm1 (w:World) (hl:Laid w) :
    Calls Tryz.prog 98 #[.string ⟨#[82,101,108,117]⟩] w fun e w'=>ja5 (some (1,1,[jat])) w' e∧w.grownBy w' none:=by
     have e1:jaw ⟨#[82,101,108,117]⟩=true:=by simp only [jaw,jaj];rfl
     obtain ⟨w0,hw0⟩ : ∃ w0,w0=w.alloc (.cells #[.int .i64 0,.int .i64 0,.slice none 0 0] 134):=⟨_,rfl⟩
     have g0:w.grownBy w0 none:=by rw [hw0];exact jab _ _
     have b0:=heap_alloc_new w (.cells #[.int .i64 0,.int .i64 0,.slice none 0 0] 134);rw [← hw0] at b0;have B0:=jac b0;have OO:=jac (jar ⟨#[82,101,108,117]⟩ w0 (hl.more g0));rw [e1] at OO;clear hl b0 e1;go_enter Tryz.func98,Tryz.ntmps98;go_wp2_with fail;rw [← hw0];clear hw0;refine OO.out.mono ?_;rintro e v0 ⟨rfl,h0⟩;go_wp2_with fail;refine (jau _ _ _ [] _ (Or.inl ⟨rfl,rfl⟩) (by decide)).mono ?_;rintro e w6 ⟨⟨a,n,c,rfl,ho,hat⟩,hg6⟩;have hlt:=(Array.getElem?_eq_some_iff.1 B0.out).1;have hsk:=h0.size
     have hne:(Value.slice a n c).ownBlock≠some w.heap.size:=fun hh=>by
      rcases hat _ hh with h | h
      ·cases h
      ·omega
     obtain ⟨b6,hX,hO,gX⟩:=jax (lo:=1) (hi:=1) g0 B0.out h0 (jad _) hg6 (fun g e=>by cases e) ho hne;obtain ⟨r0,r1,r2,f0,f1,f2⟩:=jam b6;have HX:=jac hX;have HO:=jac hO;have GX:=jac gX;clear hX hO gX b6 ho hg6 hne hat hlt hsk;go_wp2;refine bodyPost_ret (jas rfl _ _ w.heap.size rfl HX.out) rfl ?_;exact ⟨⟨_,_,_,rfl,HO.out⟩,GX.out⟩
theorem jp9 (w:World) (hl:Laid w) :
    Calls Tryz.prog 98 #[.string ⟨#[65,100,100]⟩] w fun e w'=>ja5 (some (2,2,[jat])) w' e∧w.grownBy w' none:=by
     have e1:jaw ⟨#[65,100,100]⟩=false:=by simp only [jaw,jaj];rfl
     obtain ⟨w0,hw0⟩ : ∃ w0,w0=w.alloc (.cells #[.int .i64 0,.int .i64 0,.slice none 0 0] 134):=⟨_,rfl⟩
     have g0:w.grownBy w0 none:=by rw [hw0];exact jab _ _
     have b0:=heap_alloc_new w (.cells #[.int .i64 0,.int .i64 0,.slice none 0 0] 134);rw [← hw0] at b0;have B0:=jac b0;have OO:=jac (jar ⟨#[65,100,100]⟩ w0 (hl.more g0));rw [e1] at OO;clear hl b0 e1;go_enter Tryz.func98,Tryz.ntmps98;go_wp2_with fail;rw [← hw0];clear hw0;refine OO.out.mono ?_;rintro e v0 ⟨rfl,h0⟩;go_wp2_with fail;refine (jau _ _ _ [] _ (Or.inl ⟨rfl,rfl⟩) (by decide)).mono ?_;rintro e w6 ⟨⟨a,n,c,rfl,ho,hat⟩,hg6⟩;have hlt:=(Array.getElem?_eq_some_iff.1 B0.out).1;have hsk:=h0.size
     have hne:(Value.slice a n c).ownBlock≠some w.heap.size:=fun hh=>by
      rcases hat _ hh with h | h
      ·cases h
      ·omega
     obtain ⟨b6,hX,hO,gX⟩:=jax (lo:=2) (hi:=2) g0 B0.out h0 (jad _) hg6 (fun g e=>by cases e) ho hne;obtain ⟨r0,r1,r2,f0,f1,f2⟩:=jam b6;have HX:=jac hX;have HO:=jac hO;have GX:=jac gX;clear hX hO gX b6 ho hg6 hne hat hlt hsk;go_wp2;refine bodyPost_ret (jas rfl _ _ w.heap.size rfl HX.out) rfl ?_;exact ⟨⟨_,_,_,rfl,HO.out⟩,GX.out⟩
theorem jm2 (w:World) (hl:Laid w) :
    Calls Tryz.prog 98 #[.string ⟨#[67,97,115,116]⟩] w fun e w'=>ja5 (some (1,1,[⟨⟨#[116,111]⟩,2,true⟩,jat])) w' e∧w.grownBy w' none:=by
     have e1:jaw ⟨#[67,97,115,116]⟩=false:=by simp only [jaw,jaj];rfl
     obtain ⟨w0,hw0⟩ : ∃ w0,w0=w.alloc (.cells #[.int .i64 0,.int .i64 0,.slice none 0 0] 134):=⟨_,rfl⟩
     have g0:w.grownBy w0 none:=by rw [hw0];exact jab _ _
     have b0:=heap_alloc_new w (.cells #[.int .i64 0,.int .i64 0,.slice none 0 0] 134);rw [← hw0] at b0;have B0:=jac b0;have OO:=jac (jar ⟨#[67,97,115,116]⟩ w0 (hl.more g0));rw [e1] at OO;clear hl b0 e1;go_enter Tryz.func98,Tryz.ntmps98;go_wp2_with fail;rw [← hw0];clear hw0;refine OO.out.mono ?_;rintro e v0 ⟨rfl,h0⟩;go_wp2_with fail;refine (jbO _ _ _).mono ?_;rintro e v1 ⟨rfl,h1'⟩;have h1:=jaa h0 h1';go_wp2_with fail;refine (jau _ _ _ [⟨⟨#[116,111]⟩,2,true⟩] _ (Or.inr ⟨_,_,rfl,heap_alloc_new _ _,rfl,rfl⟩) (by decide)).mono ?_;rintro e w6 ⟨⟨a,n,c,rfl,ho,hat⟩,hg6⟩;have hlt:=(Array.getElem?_eq_some_iff.1 B0.out).1;have hsk:=h1.size
     have hne:(Value.slice a n c).ownBlock≠some w.heap.size:=fun hh=>by
      rcases hat _ hh with h | h
      ·have:v1.heap.size=w.heap.size:=by simpa [Value.ownBlock] using h
       omega
      ·have:v1.heap.size+1≤w.heap.size:=by simpa using h
       omega
     obtain ⟨b6,hX,hO,gX⟩:=jax (lo:=1) (hi:=1) g0 B0.out h1 (jab v1 (.cells #[.string ⟨#[116,111]⟩,.int .i64 2,.bool true] 161)) hg6 (fun g e=>by cases e;exact Nat.le_refl _) ho hne;obtain ⟨r0,r1,r2,f0,f1,f2⟩:=jam b6;have HX:=jac hX;have HO:=jac hO;have GX:=jac gX;clear hX hO gX b6 ho hg6 hne hat hlt hsk;go_wp2;refine bodyPost_ret (jas rfl _ _ w.heap.size rfl HX.out) rfl ?_;exact ⟨⟨_,_,_,rfl,HO.out⟩,GX.out⟩
end Go.Proofs.YteigfipgmghgmaaGreatDoor
namespace Go.Proofs.YteigfipgmghgmaaGreatDoor
open Go.RowKit
abbrev jfe (w:World) (v:Value) (xs:List ByteArray):Prop:=IsL 16 1 jgo w v xs
def isS (x:ByteArray) (y:ByteArray):Bool:=x.toList==y.toList
theorem jun {w:World} {b off len cap:Nat} {xs:List ByteArray} (h:IsL 16 1 jgo w (.slice (some ⟨b,off,none⟩) len cap) xs) (k:Nat) (hk:k<xs.length):w.cell? ⟨b,off+k,none⟩=some (.string xs[k]):=by
 have:=h.at k hk 0 (by omega);simpa using this
theorem jm3 (v:Value) (xs:List ByteArray) (x:ByteArray) (w:World) (hv:jfe w v xs) :
    Calls Tryz.prog 139 #[v,.string x] w fun e w'=>e=.returned (.int .i64 (jcy (isS x) xs 0))∧w.grownBy w' none:=by
     have HV:=jac hv;obtain ⟨ao,cap,rfl,h1,h2,h3⟩:=hv.form;clear hv;go_enter Tryz.func139,Tryz.ntmps139;go_wp2_with fail;go_loopw [8] (fun i wr=>w.grownBy wr none∧∃ k:Nat,k≤xs.length∧i=.int .i64 k∧jcy (isS x) xs 0=jcy (isS x) (xs.drop k) k) (fun i _=>xs.length - (intOf i).toNat)
     case atStart=>exact ⟨jad _,0,Nat.zero_le _,rfl,rfl⟩
     case round =>
      obtain ⟨hg,k,hk,rfl,hpl⟩:=hrel;have HPL:=jac hpl;clear hpl
      by_cases hlt:k<xs.length
      ·have HVk:=HV.out.more hg;obtain ⟨b,off,rfl⟩:=HVk.addr hlt;have a0:=jun HVk k hlt;clear HVk
       by_cases ht:(x.toList==xs[k].toList)=true
       ·have HT:=jac ht;go_wp2;go_ret;exact ⟨by rw [HPL.out,jfq hlt HT.out];rfl,hg⟩
       ·have ht':(x.toList==xs[k].toList)=false:=by simpa using ht
        have HT:=jac ht';clear ht;go_wp2;go_roundw
        case rel=>exact ⟨hg,k+1,by omega,by go_num,by rw [HPL.out,jdT hlt HT.out]⟩
        case measure=>simp [intOf];omega
      ·obtain rfl:k=xs.length:=by omega
       go_wp2;go_ret;exact ⟨by rw [HPL.out,List.drop_of_length_le (Nat.le_refl _)];rfl,hg⟩
theorem jk5 {α:Type} (P:α→Bool) (xs:List α):decide (0≤jcy P xs 0)=xs.any P:=by
 rcases jc6 P xs 0 with ⟨e1,e2⟩ | ⟨j,hj,e1,e2⟩
 ·rw [e1]
  have h:xs.any P=false:=by
   rw [Bool.eq_false_iff];intro h;obtain ⟨x,hx,hp⟩:=List.any_eq_true.1 h;exact absurd hp (by simpa using List.find?_eq_none.1 e2 x hx)
  rw [h]
  rfl
 ·rw [e1];have h:xs.any P=true:=List.any_eq_true.2 ⟨xs[j],List.getElem_mem hj,List.find?_some e2⟩;rw [h];simp
theorem jix (v:Value) (xs:List ByteArray) (x:ByteArray) (w:World) (hv:jfe w v xs) :
    Calls Tryz.prog 99 #[v,.string x] w fun e w'=>e=.returned (.bool (xs.any (isS x)))∧w.grownBy w' none:=by
     have IX:=jac (jm3 v xs x w hv);have HP:=jac (jk5 (isS x) xs);clear hv;go_enter Tryz.func99,Tryz.ntmps99;go_wp2_with fail;refine IX.out.mono ?_;rintro e w1 ⟨rfl,hg⟩;go_wp2;go_ret;exact ⟨by rw [← HP.out];rfl,hg⟩
def jiy (nm:ByteArray) (r:Ra):Bool:=r.name.toList==nm.toList
def jed (nm:ByteArray) (b:Atr):Bool:=b.name.toList==nm.toList
theorem jc8 {w:World} {B:Nat} {r:Ra} (hb:w.heap[B]?=some (.cells #[.string r.name,.int .i64 r.kind,.bool r.must] 161 (0,0))) :
    w.cell? ⟨B,0,none⟩=some (.string r.name)∧w.cell? ⟨B,1,none⟩=some (.int .i64 r.kind)∧w.cell? ⟨B,2,none⟩=some (.bool r.must) :=
     ⟨(cell_of_row _ _ 0 _ _ (0,0) hb).trans rfl,(cell_of_row _ _ 1 _ _ (0,0) hb).trans rfl,(cell_of_row _ _ 2 _ _ (0,0) hb).trans rfl⟩
theorem jm4 (r:Ra) (p:Nat) (nm:ByteArray) (w:World) (hp:w.cell? ⟨p,0,none⟩=some (.string nm)) :
    Calls Tryz.prog 140 #[.agg #[.string r.name,.int .i64 r.kind,.bool r.must],.pointer (some ⟨p,0,none⟩)] w fun e w'=>e=.returned (.bool (jiy nm r))∧w.grownBy w' none:=by
     have g0:=jab w (.cells #[.string r.name,.int .i64 r.kind,.bool r.must] 161);obtain ⟨c0,-⟩:=jc8 (heap_alloc_new w (.cells #[.string r.name,.int .i64 r.kind,.bool r.must] 161))
     have cp:(w.alloc (.cells #[.string r.name,.int .i64 r.kind,.bool r.must] 161)).cell? ⟨p,0,none⟩=some (.string nm):=by
      rw [← hp];exact World.cell?_of_block (g0.block p (World.block_lt_of_cell? w _ hp) (by simp))
     have G0:=jac g0;clear hp g0;go_enter Tryz.func140,Tryz.ntmps140;go_wp2;go_ret;exact ⟨rfl,G0.out⟩
theorem jm5 (a:Atr) (p:Nat) (nm:ByteArray) (w:World) (hp:w.cell? ⟨p,0,none⟩=some (.string nm)) :
    Calls Tryz.prog 142 #[jlB a,.pointer (some ⟨p,0,none⟩)] w fun e w'=>e=.returned (.bool (jed nm a))∧w.grownBy w' none:=by
     have g0:=jab w (.cells #[.string a.name,.int .i64 a.kind,.int .i64 a.f,.int .i64 a.i,.string a.s,.int .i64 a.ty,.slice a.dv.a a.dv.n a.dv.c,.slice a.tv.a a.tv.n a.tv.c,.slice a.iv.a a.iv.n a.iv.c] 92);obtain ⟨c0,-⟩:=jaR (heap_alloc_new w (.cells #[.string a.name,.int .i64 a.kind,.int .i64 a.f,.int .i64 a.i,.string a.s,.int .i64 a.ty,.slice a.dv.a a.dv.n a.dv.c,.slice a.tv.a a.tv.n a.tv.c,.slice a.iv.a a.iv.n a.iv.c] 92))
     have cp:(w.alloc (.cells #[.string a.name,.int .i64 a.kind,.int .i64 a.f,.int .i64 a.i,.string a.s,.int .i64 a.ty,.slice a.dv.a a.dv.n a.dv.c,.slice a.tv.a a.tv.n a.tv.c,.slice a.iv.a a.iv.n a.iv.c] 92)).cell? ⟨p,0,none⟩=some (.string nm):=by
      rw [← hp];exact World.cell?_of_block (g0.block p (World.block_lt_of_cell? w _ hp) (by simp))
     have G0:=jac g0;clear hp g0;unfold jlB;go_enter Tryz.func142,Tryz.ntmps142;go_wp2;go_ret;exact ⟨rfl,G0.out⟩
theorem jfD {w w':World} {a:Addr} {x:Value} (h:w.cell? a=some x) (hg:w.grownBy w' none):w'.cell? a=some x :=
 (World.cell?_of_block (hg.block a.block (World.block_lt_of_cell? w _ h) (by simp))).trans h
abbrev jsA (w:World) (v:Value) (xs:List Ra):Prop:=IsL 32 3 jfC w v xs
theorem IsL.ra {w:World} {b off len cap:Nat} {xs:List Ra} (h:IsL 32 3 jfC w (.slice (some ⟨b,off,none⟩) len cap) xs) (k:Nat) (hk:k<xs.length) :
    w.cell? ⟨b,off+k*3,none⟩=some (.string xs[k].name)∧w.cell? ⟨b,off+k*3+1,none⟩=some (.int .i64 xs[k].kind)∧w.cell? ⟨b,off+k*3+2,none⟩=some (.bool xs[k].must):=by
     have f:=fun j hj=>h.at k hk j hj;exact ⟨f 0 (by omega),f 1 (by omega),f 2 (by omega)⟩
theorem jqa (v:Value) (xs:List Ra) (p:Nat) (nm:ByteArray) (w:World) (hv:jsA w v xs) (hp:w.cell? ⟨p,0,none⟩=some (.string nm)) :
    Calls Tryz.prog 141 #[v,.func (.func 140) #[] #[.pointer (some ⟨p,0,none⟩)]] w fun e w'=>e=.returned (.int .i64 (jcy (jiy nm) xs 0))∧w.grownBy w' none:=by
     have HV:=jac hv;obtain ⟨ao,cap,rfl,h1,h2,h3⟩:=hv.form;have HP:=jac hp;clear hv hp;go_enter Tryz.func141,Tryz.ntmps141;go_wp2_with fail;go_loopw [8] (fun i wr=>w.grownBy wr none∧∃ k:Nat,k≤xs.length∧i=.int .i64 k∧jcy (jiy nm) xs 0=jcy (jiy nm) (xs.drop k) k) (fun i _=>xs.length - (intOf i).toNat)
     case atStart=>exact ⟨jad _,0,Nat.zero_le _,rfl,rfl⟩
     case round =>
      obtain ⟨hg,k,hk,rfl,hpl⟩:=hrel;have HPL:=jac hpl;clear hpl
      by_cases hlt:k<xs.length
      ·have HVk:=HV.out.more hg;obtain ⟨b,off,rfl⟩:=HVk.addr hlt;obtain ⟨a0,a1,a2⟩:=HVk.ra k hlt;have NA:=jac (fun (wx:World) (hx:w.grownBy wx none)=>jm4 xs[k] p nm wx (jfD HP.out hx));clear HVk;go_wp2_with fail;refine (NA.out wr hg).mono ?_;rintro e w1 ⟨rfl,hg1⟩;have g1:=jaa hg hg1
       cases ht:jiy nm xs[k] with
       | true =>
        have HT:=jac ht;clear ht;go_wp2;go_ret;exact ⟨by rw [HPL.out,jfq hlt HT.out];rfl,g1⟩
       | false =>
        have HT:=jac ht;clear ht;go_wp2;go_roundw
        case rel=>exact ⟨g1,k+1,by omega,by go_num,by rw [HPL.out,jdT hlt HT.out]⟩
        case measure=>simp [intOf];omega
      ·obtain rfl:k=xs.length:=by omega
       go_wp2;go_ret;exact ⟨by rw [HPL.out,List.drop_of_length_le (Nat.le_refl _)];rfl,hg⟩
theorem jjL (v:Value) (xs:List Atr) (p:Nat) (nm:ByteArray) (w:World) (hv:jbR w v xs) (hp:w.cell? ⟨p,0,none⟩=some (.string nm)) :
    Calls Tryz.prog 90 #[v,.func (.func 142) #[] #[.pointer (some ⟨p,0,none⟩)]] w fun e w'=>e=.returned (.int .i64 (jcy (jed nm) xs 0))∧w.grownBy w' none:=by
     have HV:=jac hv;obtain ⟨ao,cap,rfl,h1,h2,h3⟩:=hv.form;have HP:=jac hp;clear hv hp;go_enter Tryz.func90,Tryz.ntmps90;go_wp2_with fail;go_loopw [8] (fun i wr=>w.grownBy wr none∧∃ k:Nat,k≤xs.length∧i=.int .i64 k∧jcy (jed nm) xs 0=jcy (jed nm) (xs.drop k) k) (fun i _=>xs.length - (intOf i).toNat)
     case atStart=>exact ⟨jad _,0,Nat.zero_le _,rfl,rfl⟩
     case round =>
      obtain ⟨hg,k,hk,rfl,hpl⟩:=hrel;have HPL:=jac hpl;clear hpl
      by_cases hlt:k<xs.length
      ·have HVk:=HV.out.more hg;obtain ⟨b,off,rfl⟩:=HVk.addr hlt;obtain ⟨a0,a1,a2,a3,a4,a5,a6,a7,a8⟩:=HVk.attr k hlt;have NA:=jac (fun (wx:World) (hx:w.grownBy wx none)=>jm5 xs[k] p nm wx (jfD HP.out hx));clear HVk;go_wp2_with fail;refine (NA.out wr hg).mono ?_;rintro e w1 ⟨rfl,hg1⟩;have g1:=jaa hg hg1
       cases ht:jed nm xs[k] with
       | true =>
        have HT:=jac ht;clear ht;go_wp2;go_ret;exact ⟨by rw [HPL.out,jfq hlt HT.out];rfl,g1⟩
       | false =>
        have HT:=jac ht;clear ht;go_wp2;go_roundw
        case rel=>exact ⟨g1,k+1,by omega,by go_num,by rw [HPL.out,jdT hlt HT.out]⟩
        case measure=>simp [intOf];omega
      ·obtain rfl:k=xs.length:=by omega
       go_wp2;go_ret;exact ⟨by rw [HPL.out,List.drop_of_length_le (Nat.le_refl _)];rfl,hg⟩
theorem jgq (v:Value) (xs:List Atr) (p:Nat) (nm:ByteArray) (w:World) (hv:jbR w v xs) (hp:w.cell? ⟨p,0,none⟩=some (.string nm)) :
    Calls Tryz.prog 143 #[v,.func (.func 142) #[] #[.pointer (some ⟨p,0,none⟩)]] w fun e w'=>e=.returned (.bool (xs.any (jed nm)))∧w.grownBy w' none:=by
     have IX:=jac (jjL v xs p nm w hv hp);have HP:=jac (jk5 (jed nm) xs);clear hv hp;go_enter Tryz.func143,Tryz.ntmps143;go_wp2_with fail;refine IX.out.mono ?_;rintro e w1 ⟨rfl,hg⟩;go_wp2;go_ret;exact ⟨by rw [← HP.out];rfl,hg⟩
end Go.Proofs.YteigfipgmghgmaaGreatDoor
namespace Go.Proofs.YteigfipgmghgmaaGreatDoor
open Go.RowKit
def fOK (f:Int):Bool:=decide (0≤f)&&(decide (f<4294967296)&&(f==2143289344||decide (bits BinOp.andNot IntKind.i64 f 2147483648≤2139095040)))
theorem jsB (f:Int) (w:World) :
    Calls Tryz.prog 45 #[.int .i64 1,.int .i64 f] w fun e w'=>e=.returned (.bool (fOK f))∧w.grownBy w' none:=by
     by_cases h0:0≤f
     ·by_cases h1:f<4294967296
      ·by_cases h2:f=2143289344
       ·subst h2;go_enter Tryz.func45,Tryz.ntmps45;go_wp2;go_ret;exact ⟨rfl,jad _⟩
       ·have h3:(f==2143289344)=false:=by simpa using h2
        have H0:=jac h0;have H1:=jac h1;have H3:=jac h3;go_enter Tryz.func45,Tryz.ntmps45;go_wp2;go_ret;exact ⟨by rw [fOK,decide_eq_true H0.out,decide_eq_true H1.out];simp [H3.out],jad _⟩
      ·have H1:=jac h1;have H0:=jac h0;go_enter Tryz.func45,Tryz.ntmps45;go_wp2;go_ret;exact ⟨by rw [fOK,decide_eq_false (show ¬ f<4294967296 by have:=H1.out;omega)];simp,jad _⟩
     ·have H0:=jac h0;go_enter Tryz.func45,Tryz.ntmps45;go_wp2;go_ret;exact ⟨by rw [fOK,decide_eq_false (show ¬ 0≤f by have:=H0.out;omega)];rfl,jad _⟩
def jlG (rs:List Ra) (xs:List Atr):List Atr→Nat→Option Int
 | [],_=>none
 | a::l,i=>match rs.find? (jiy a.name) with
  | none=>some 5
  | some r=>if (a.kind != r.kind)||(xs.take i).any (jed a.name) then some 4 else if (a.kind==1)&&!(fOK a.f) then some 4 else jlG rs xs l (i+1)
def jsC (rs:List Ra) (xs:List Atr):Bool:=rs.any (fun r=>r.must&&!(xs.find? (isA r.name r.kind)).isSome)
def jbU (rs:List Ra) (xs:List Atr):Int:=match jlG rs xs xs 0 with
 | some e=>e
 | none=>if jsC rs xs then 4 else 0
theorem jsD {rs : List Ra} {xs : List Atr} {k : Nat} (hk : k < xs.length) : jlG rs xs (xs.drop k) k = match rs.find? (jiy xs[k].name) with
    | none=>some 5
    | some r=>if (xs[k].kind != r.kind)||(xs.take k).any (jed xs[k].name) then some 4 else if (xs[k].kind==1)&&!(fOK xs[k].f) then some 4 else jlG rs xs (xs.drop (k+1)) (k+1):=by
     rw [List.drop_eq_getElem_cons hk,jlG]
theorem jqb {α:Type} {bytes size:Nat} {f:α→List Value} {w:World} {ao:Option Addr} {len cap:Nat} {xs:List α} (h:IsL bytes size f w (.slice ao len cap) xs) (k:Nat) (hk:k≤xs.length):IsL bytes size f w (.slice ao k cap) (xs.take k):=by
 obtain ⟨ao',cap',e,h1,h2,h3,h4,h5⟩:=h
 cases e
 have hl:(xs.take k).length=k:=by rw [List.length_take];omega
 refine ⟨ao,cap,by rw [hl],by omega,h2,?_,fun e=>?_,fun hp=>?_⟩
 ·rw [hl];exact Nat.le_trans (Nat.mul_le_mul_right _ hk) h3
 ·obtain ⟨rfl,hc⟩:=h4 e;exact ⟨List.take_nil,hc⟩
 ·obtain ⟨b,off,rfl,hc⟩:=h5 (by omega);refine ⟨b,off,rfl,fun j hj i hi=>?_⟩;have hj':j<xs.length:=by omega
  have:=hc j hj' i hi;simpa [List.getElem_take] using this
theorem jiz {l:List Ra} {f:Ra→Bool} {k:Nat} {x:Ra} (h:(l.take k).any f=false) (hx:l[k]?=some x) (hf:f x=false):(l.take (k+1)).any f=false:=by
 rw [List.take_add_one,List.any_append,h,hx];simp [hf]
theorem jc9 {rs:List Ra} {xs:List Atr} {e:Int} (h:jlG rs xs xs 0=some e):jbU rs xs=e:=by unfold jbU;rw [h]
theorem jgr (n:Nod) (xs:List Atr) (rv:Value) (rs:List Ra) (w:World) (hv:jbR w n.av.v xs) (hr:jsA w rv rs) :
    Calls Tryz.prog 100 #[jaz n,rv] w fun e w'=>e=.returned (.int .i64 (jbU rs xs))∧w.grownBy w' none:=by
     obtain ⟨op,nam,⟨ia,il,ic⟩,out,⟨ao,al,cap⟩⟩:=n;simp only at hv;obtain ⟨ao',cap',hav,h1,h2,h3⟩:=hv.form;obtain ⟨rfl,rfl,rfl⟩ : ao=ao'∧al=xs.length∧cap=cap':=by simpa [Sl.v] using hav
     have HV:=jac hv;have HR:=jac hr;obtain ⟨ra,rc,rfl,k1,k2,k3⟩:=hr.form;clear hv hav hr;unfold jaz;simp only;obtain ⟨w0,hw0⟩ : ∃ w0,w0=w.alloc (.cells #[.string op,.string nam,.slice ia il ic,.string out,.slice ao xs.length cap] 25):=⟨_,rfl⟩
     have g0:w.grownBy w0 none:=by rw [hw0];exact jab _ _
     have hb0:=heap_alloc_new w (.cells #[.string op,.string nam,.slice ia il ic,.string out,.slice ao xs.length cap] 25);obtain ⟨-,-,-,-,n4⟩:=jak (n:=⟨op,nam,⟨ia,il,ic⟩,out,⟨ao,xs.length,cap⟩⟩) hb0;rw [← hw0] at hb0;have BX:Hid (∀ wx,w0.grownBy wx none→wx.heap[w.heap.size]?=some (.cells #[.string op,.string nam,.slice ia il ic,.string out,.slice ao xs.length cap] 25 (0,0))):=fun wx hg=>jag hb0 hg;clear hb0;go_enter Tryz.func100,Tryz.ntmps100;go_wp2_with fail;rw [← hw0];clear hw0 n4;go_loopw [17] (fun i wr=>w0.grownBy wr none∧∃ k:Nat,k≤xs.length∧i=.int .i64 k∧jlG rs xs xs 0=jlG rs xs (xs.drop k) k) (fun i _=>xs.length - (intOf i).toNat)
     case atStart=>exact ⟨jad _,0,Nat.zero_le _,rfl,rfl⟩
     case round =>
      obtain ⟨hg,k,hk,rfl,hpl⟩:=hrel;have HPL:=jac hpl;clear hpl
      by_cases hlt:k<xs.length
      ·have HVk:=HV.out.more (jaa g0 hg);obtain ⟨b,off,rfl⟩:=HVk.addr hlt;obtain ⟨a0,a1,a2,a3,a4,a5,a6,a7,a8⟩:=HVk.attr k hlt;have HCK:=jac (jsD (rs:=rs) hlt);obtain ⟨A,hA⟩ : ∃ A,A=xs[k]:=⟨_,rfl⟩
       rw [← hA] at a0 a1 a2 a3 a4 a5 a6 a7 a8 HCK;clear HVk hA;obtain ⟨W1,hW1⟩ : ∃ W1,W1=wr.alloc (.cells #[.string A.name,.int .i64 A.kind,.int .i64 A.f,.int .i64 A.i,.string A.s,.int .i64 A.ty,.slice A.dv.a A.dv.n A.dv.c,.slice A.tv.a A.tv.n A.tv.c,.slice A.iv.a A.iv.n A.iv.c] 92):=⟨_,rfl⟩
       have G1:wr.grownBy W1 none:=by rw [hW1];exact jab _ _
       have B1:=heap_alloc_new wr (.cells #[.string A.name,.int .i64 A.kind,.int .i64 A.f,.int .i64 A.i,.string A.s,.int .i64 A.ty,.slice A.dv.a A.dv.n A.dv.c,.slice A.tv.a A.tv.n A.tv.c,.slice A.iv.a A.iv.n A.iv.c] 92);rw [← hW1] at B1;have AB:Hid (∀ wx,W1.grownBy wx none→wx.heap[wr.heap.size]?=some (.cells #[.string A.name,.int .i64 A.kind,.int .i64 A.f,.int .i64 A.i,.string A.s,.int .i64 A.ty,.slice A.dv.a A.dv.n A.dv.c,.slice A.tv.a A.tv.n A.tv.c,.slice A.iv.a A.iv.n A.iv.c] 92 (0,0))):=fun wx hx=>jag B1 hx;have g1:=jaa hg G1;clear B1;go_wp2_with fail;rw [← hW1];clear hW1 a0 a1 a2 a3 a4 a5 a6 a7 a8;refine (jqa _ rs wr.heap.size A.name W1 (HR.out.more (jaa g0 g1)) (jaR (AB.out W1 (jad _))).1).mono ?_;rintro e w2 ⟨rfl,hg2⟩;have g2:=jaa g1 hg2
       rcases jc6 (jiy A.name) rs 0 with ⟨e1,e2⟩ | ⟨j,hj,e1,e2⟩
       ·rw [e1];have E:Hid (jbU rs xs=5):=jc9 (by rw [HPL.out,HCK.out,e2]);clear e1 e2;go_wp2;go_ret;exact ⟨by rw [E.out];rfl,jaa g0 g2⟩
       ·rw [e1,show ((0+j:Nat):Int)=(j:Int) by simp];have HE2:=jac e2;clear e1 e2;have HRk:=HR.out.more (jaa g0 g2);obtain ⟨rb,ro,rfl⟩:=HRk.addr hj;obtain ⟨r0,r1,r2⟩:=HRk.ra j hj;obtain ⟨c0,c1,c2,-⟩:=jaR (AB.out w2 hg2);obtain ⟨-,-,-,-,n4⟩:=jak (n:=⟨op,nam,⟨ia,il,ic⟩,out,⟨some ⟨b,off,none⟩,xs.length,cap⟩⟩) (BX.out w2 g2);obtain ⟨R,hR⟩ : ∃ R,R=rs[j]:=⟨_,rfl⟩
        rw [← hR] at r0 r1 r2 HE2;clear HRk hR r0 r2 c0;have gd:=jaf (jad w2);have CA:=jac (fun (wx:World) (hx:w2.grownBy wx none)=>jgq (.slice (some ⟨b,off,none⟩) k cap) (xs.take k) wr.heap.size A.name wx (jqb (HV.out.more (jaa (jaa g0 g2) hx)) k (by omega)) (jaR (AB.out wx (jaa hg2 hx))).1)
        by_cases hkd:(A.kind != R.kind)=true
        ·have HKD:=jac hkd;go_wp2_with fail;have E:Hid (jbU rs xs=4):=jc9 (by rw [HPL.out,HCK.out,HE2.out];simp only [HKD.out,Bool.true_or,if_true]);go_region
         all_goals
          go_wp2;go_ret;exact ⟨by rw [E.out];rfl,jaf (jaa g0 g2)⟩
        ·have hkd':(A.kind != R.kind)=false:=by simpa using hkd
         have HKD:=jac hkd';clear hkd;have hkc:k≤cap:=by omega
         go_wp2_with fail;go_region_held3 (fun w'=>w'.cell? ⟨wr.heap.size,1,none⟩=some (.int .i64 A.kind)∧w'.cell? ⟨rb,ro+j*3+1,none⟩=some (.int .i64 R.kind)∧w'.cell? ⟨w.heap.size,4,none⟩=some (.slice (some ⟨b,off,none⟩) xs.length cap)) (go_keep) (first | (go_at_call 143;refine (CA.out _ (by exact gd)).mono ?_;rintro e w3 ⟨rfl,hg3⟩;have g3:=jaa gd hg3;obtain ⟨c0,c1,c2,-⟩:=jaR (AB.out w3 (jaa hg2 g3));obtain ⟨-,-,-,-,n4⟩:=jak (n:=⟨op,nam,⟨ia,il,ic⟩,out,⟨some ⟨b,off,none⟩,xs.length,cap⟩⟩) (BX.out w3 (jaa g2 g3));have r1:=jfD r1 g3));have g13:=jaa g2 g3
         cases hah:(xs.take k).any (jed A.name) with
         | true =>
          have E:Hid (jbU rs xs=4):=jc9 (by rw [HPL.out,HCK.out,HE2.out];simp only [HKD.out,hah,Bool.or_true,if_true]);clear hah;go_wp2;go_ret;exact ⟨by rw [E.out];rfl,jaa g0 g13⟩
         | false =>
          have HAH:=jac hah;clear hah
          by_cases hk1:A.kind=1
          ·have HK1:=jac hk1;have e1:(A.kind==1)=true:=by simpa using hk1
           have HE1:=jac e1;rw [hk1] at c1;clear hk1 e1;go_wp2_with fail;refine (jsB A.f w3).mono ?_;rintro e w4 ⟨rfl,hg4⟩;have g14:=jaa g13 hg4
           cases hf:fOK A.f with
           | false =>
            have E:Hid (jbU rs xs=4):=jc9 (by rw [HPL.out,HCK.out,HE2.out];simp [HKD.out,HAH.out,HE1.out,hf]);clear hf;go_wp2;go_ret;exact ⟨by rw [E.out];rfl,jaa g0 g14⟩
           | true =>
            have HN:Hid (jlG rs xs xs 0=jlG rs xs (xs.drop (k+1)) (k+1)):=by
             show _=_;rw [HPL.out,HCK.out,HE2.out];simp [HKD.out,HAH.out,hf]
            clear hf;go_wp2;go_roundw
            case rel=>exact ⟨g14,k+1,by omega,by go_num,HN.out⟩
            case measure=>simp [intOf];omega
          ·have e1:(A.kind==1)=false:=by simpa using hk1
           have HN:Hid (jlG rs xs xs 0=jlG rs xs (xs.drop (k+1)) (k+1)):=by
            show _=_;rw [HPL.out,HCK.out,HE2.out];simp [HKD.out,HAH.out,e1]
           clear hk1;go_wp2;go_roundw
           case rel=>exact ⟨g13,k+1,by omega,by go_num,HN.out⟩
           case measure=>simp [intOf];omega
      ·obtain rfl:k=xs.length:=by omega
       have HN:Hid (jlG rs xs xs 0=none):=by
        show _=_;rw [HPL.out,List.drop_of_length_le (Nat.le_refl _)];rfl
       obtain ⟨wo,rfl⟩ : ∃ wo,wo=wr:=⟨_,rfl⟩
       go_wp2_with fail;go_loopw [57] (fun i wr=>w0.grownBy wr none∧∃ k:Nat,k≤rs.length∧i=.int .i64 k∧(rs.take k).any (fun r=>r.must&&!(xs.find? (isA r.name r.kind)).isSome)=false) (fun i _=>rs.length - (intOf i).toNat)
       case atStart=>exact ⟨hg,0,Nat.zero_le _,rfl,rfl⟩
       case round =>
        obtain ⟨hgr,k,hk',rfl,hno⟩:=hrel;have HNO:=jac hno;clear hno
        by_cases hlt2:k<rs.length
        ·have HRk:=HR.out.more (jaa g0 hgr);obtain ⟨rb,ro,rfl⟩:=HRk.addr hlt2;obtain ⟨a0,a1,a2⟩:=HRk.ra k hlt2;have HRK:Hid (rs[k]?=some rs[k]):=List.getElem?_eq_getElem hlt2;obtain ⟨R,hR⟩ : ∃ R,R=rs[k]:=⟨_,rfl⟩
         rw [← hR] at a0 a1 a2 HRK;clear HRk hR;obtain ⟨W1,hW1⟩ : ∃ W1,W1=wr.alloc (.cells #[.string R.name,.int .i64 R.kind,.bool R.must] 161):=⟨_,rfl⟩
         have G1:wr.grownBy W1 none:=by rw [hW1];exact jab _ _
         have B1:=heap_alloc_new wr (.cells #[.string R.name,.int .i64 R.kind,.bool R.must] 161)
         have HZ1:Hid (W1.heap.size=wr.heap.size+1∧w.heap.size<wr.heap.size):=by
          refine ⟨by rw [hW1];simp,?_⟩;exact (Array.getElem?_eq_some_iff.1 (BX.out wr hgr)).1
         rw [← hW1] at B1;have RB:Hid (∀ wx,W1.grownBy wx none→wx.heap[wr.heap.size]?=some (.cells #[.string R.name,.int .i64 R.kind,.bool R.must] 161 (0,0))):=fun wx hx=>jag B1 hx;have g1:=jaa hgr G1;have FN:=jac (fun (p q:Nat) (wx:World) (hx:W1.grownBy wx none) (hp:wx.heap[p]?=some (.cells #[.string R.name] 9 (0,0))) (hq:wx.heap[q]?=some (.cells #[.int .i64 R.kind] 3 (0,0)))=>jcd ⟨op,nam,⟨ia,il,ic⟩,out,⟨ao,xs.length,cap⟩⟩ xs p q R.name R.kind wx (HV.out.more (jaa (jaa g0 g1) hx)) hp hq);unfold jaz at FN;simp only at FN;clear B1;go_wp2;rw [← hW1];clear hW1 a0 a1 a2;go_cut [13] from 58 to 77 (fun b wx=>b=.bool (xs.find? (isA R.name R.kind)).isSome∧W1.grownBy wx none)
         case first =>
          obtain ⟨n0,n1,n2,n3,n4⟩:=jak (n:=⟨op,nam,⟨ia,il,ic⟩,out,⟨ao,xs.length,cap⟩⟩) (BX.out W1 g1);obtain ⟨q0,q1,q2⟩:=jc8 (RB.out W1 (jad _));have gd:=jaf (jad W1)
          cases hf:xs.find? (isA R.name R.kind) with
          | none =>
           have HF:=jac hf;rw [hf] at FN;simp only [Option.getD_none,jlB,jcM,Option.isSome_none] at FN ⊢;go_region_held3 (fun w'=>w'.cell? ⟨w.heap.size,0,none⟩=some (.string op)∧w'.cell? ⟨w.heap.size,1,none⟩=some (.string nam)∧w'.cell? ⟨w.heap.size,2,none⟩=some (.slice ia il ic)∧w'.cell? ⟨w.heap.size,3,none⟩=some (.string out)∧w'.cell? ⟨w.heap.size,4,none⟩=some (.slice ao xs.length cap)∧w'.cell? ⟨wr.heap.size,0,none⟩=some (.string R.name)∧w'.cell? ⟨wr.heap.size,1,none⟩=some (.int .i64 R.kind)∧w'.cell? ⟨wr.heap.size,2,none⟩=some (.bool R.must)) (go_keep) (first | (go_at_call 58;refine (jcp _ _ _).mono ?_;rintro e v1 ⟨rfl,hp1,hq1,hg1⟩;have g1_v1:W1.grownBy v1 none:=(by first | exact jaa gd hg1 | exact jaa (jaf (jab W1 _)) hg1);obtain ⟨n0,n1,n2,n3,n4⟩:=jak (n:=⟨op,nam,⟨ia,il,ic⟩,out,⟨ao,xs.length,cap⟩⟩) (BX.out v1 (jaa g1 g1_v1));obtain ⟨q0,q1,q2⟩:=jc8 (RB.out v1 g1_v1);have y1:w.heap.size≠v1.heap.size:=(by have:=g1_v1.size;have:=HZ1.out;omega);have y1':=y1.symm;have y2:wr.heap.size≠v1.heap.size:=(by have:=g1_v1.size;have:=HZ1.out;omega);have y2':=y2.symm;have y3:w.heap.size≠W1.heap.size:=(by have:=HZ1.out;omega);have y3':=y3.symm;have y4:wr.heap.size≠W1.heap.size:=(by have:=HZ1.out;omega);have y4':=y4.symm;try (have hp2:v1.heap[W1.heap.size+1]?=some (.cells #[.string R.name] 9 (0,0)):=(by have h:=hp1;rw [show ((W1.alloc (.cells #[.string ⟨#[]⟩,.int .i64 0,.int .i64 0,.int .i64 0,.string ⟨#[]⟩,.int .i64 0,.slice none 0 0,.slice none 0 0,.slice none 0 0] 92)).drew).heap.size=W1.heap.size+1 by simp] at h;exact h));try (have hq2:v1.heap[W1.heap.size+1+1]?=some (.cells #[.int .i64 R.kind] 3 (0,0)):=(by have h:=hq1;rw [show ((W1.alloc (.cells #[.string ⟨#[]⟩,.int .i64 0,.int .i64 0,.int .i64 0,.string ⟨#[]⟩,.int .i64 0,.slice none 0 0,.slice none 0 0,.slice none 0 0] 92)).drew).heap.size=W1.heap.size+1 by simp] at h;exact h));try (have kz:v1.heap[W1.heap.size]?=some (.cells #[.string ⟨#[]⟩,.int .i64 0,.int .i64 0,.int .i64 0,.string ⟨#[]⟩,.int .i64 0,.slice none 0 0,.slice none 0 0,.slice none 0 0] 92 (0,0)):=jag (show ((W1.alloc (.cells #[.string ⟨#[]⟩,.int .i64 0,.int .i64 0,.int .i64 0,.string ⟨#[]⟩,.int .i64 0,.slice none 0 0,.slice none 0 0,.slice none 0 0] 92)).drew).heap[W1.heap.size]?=_ from heap_alloc_new W1 _) hg1)) | (go_at_call 57;refine (FN.out _ _ _ (by first | exact g1_v1 | exact jaa g1_v1 (jab _ _)) (by first | exact hp1 | exact hp2 | exact jag hp1 (jab _ _)) (by first | exact hq1 | exact hq2 | exact jag hq1 (jab _ _))).mono ?_;rintro e v2 ⟨rfl,hg2⟩;have g1_v2:W1.grownBy v2 none:=(by first | exact jaa g1_v1 hg2 | exact jaa (jaa g1_v1 (jab _ _)) hg2);obtain ⟨n0,n1,n2,n3,n4⟩:=jak (n:=⟨op,nam,⟨ia,il,ic⟩,out,⟨ao,xs.length,cap⟩⟩) (BX.out v2 (jaa g1 g1_v2));obtain ⟨q0,q1,q2⟩:=jc8 (RB.out v2 g1_v2);try (first | have kz2:=jag kz hg2 | have kz2:v2.heap[v1.heap.size]?=some (.cells #[.string ⟨#[]⟩,.int .i64 0,.int .i64 0,.int .i64 0,.string ⟨#[]⟩,.int .i64 0,.slice none 0 0,.slice none 0 0,.slice none 0 0] 92 (0,0)):=jag (heap_alloc_new v1 _) hg2);try (obtain ⟨f0,f1,f2,f3,f4,f5,f6,f7,f8⟩:=jbF kz2);try (obtain ⟨k0,k1,k2,k3,k4,k5,k6,k7,k8⟩:=jaR (a:=jcM) kz2)))
           ·have GG:=jac g1_v2;go_wp2_with fail
            go_meet
            exact ⟨by rw [HF.out];rfl,jaa GG.out (jab v2 _)⟩
           ·obtain ⟨-,gX⟩:=jb9 (.string ⟨#[]⟩) (.int .i64 0) (.int .i64 0) (.int .i64 0) (.string ⟨#[]⟩) (.int .i64 0) (.slice none 0 0) (.slice none 0 0) (.slice none 0 0) g1_v2 (show W1.heap.size≤v1.heap.size from g1_v1.size) kz2;have GX:=jac gX;clear gX;go_wp2_with fail
            go_meet
            exact ⟨by rw [HF.out];rfl,GX.out⟩
           ·obtain ⟨-,gX⟩:=jb9 (.string ⟨#[]⟩) (.int .i64 0) (.int .i64 0) (.int .i64 0) (.string ⟨#[]⟩) (.int .i64 0) (.slice none 0 0) (.slice none 0 0) (.slice none 0 0) g1_v2 (Nat.le_refl _) kz2;have GX:=jac gX;clear gX;go_wp2_with fail
            go_meet
            exact ⟨by rw [HF.out];rfl,GX.out⟩
          | some a =>
           have HF:=jac hf;rw [hf] at FN;simp only [Option.getD_some,jlB,Option.isSome_some] at FN ⊢;go_region_held3 (fun w'=>w'.cell? ⟨w.heap.size,0,none⟩=some (.string op)∧w'.cell? ⟨w.heap.size,1,none⟩=some (.string nam)∧w'.cell? ⟨w.heap.size,2,none⟩=some (.slice ia il ic)∧w'.cell? ⟨w.heap.size,3,none⟩=some (.string out)∧w'.cell? ⟨w.heap.size,4,none⟩=some (.slice ao xs.length cap)∧w'.cell? ⟨wr.heap.size,0,none⟩=some (.string R.name)∧w'.cell? ⟨wr.heap.size,1,none⟩=some (.int .i64 R.kind)∧w'.cell? ⟨wr.heap.size,2,none⟩=some (.bool R.must)) (go_keep) (first | (go_at_call 58;refine (jcp _ _ _).mono ?_;rintro e v1 ⟨rfl,hp1,hq1,hg1⟩;have g1_v1:W1.grownBy v1 none:=(by first | exact jaa gd hg1 | exact jaa (jaf (jab W1 _)) hg1);obtain ⟨n0,n1,n2,n3,n4⟩:=jak (n:=⟨op,nam,⟨ia,il,ic⟩,out,⟨ao,xs.length,cap⟩⟩) (BX.out v1 (jaa g1 g1_v1));obtain ⟨q0,q1,q2⟩:=jc8 (RB.out v1 g1_v1);have y1:w.heap.size≠v1.heap.size:=(by have:=g1_v1.size;have:=HZ1.out;omega);have y1':=y1.symm;have y2:wr.heap.size≠v1.heap.size:=(by have:=g1_v1.size;have:=HZ1.out;omega);have y2':=y2.symm;have y3:w.heap.size≠W1.heap.size:=(by have:=HZ1.out;omega);have y3':=y3.symm;have y4:wr.heap.size≠W1.heap.size:=(by have:=HZ1.out;omega);have y4':=y4.symm;try (have hp2:v1.heap[W1.heap.size+1]?=some (.cells #[.string R.name] 9 (0,0)):=(by have h:=hp1;rw [show ((W1.alloc (.cells #[.string ⟨#[]⟩,.int .i64 0,.int .i64 0,.int .i64 0,.string ⟨#[]⟩,.int .i64 0,.slice none 0 0,.slice none 0 0,.slice none 0 0] 92)).drew).heap.size=W1.heap.size+1 by simp] at h;exact h));try (have hq2:v1.heap[W1.heap.size+1+1]?=some (.cells #[.int .i64 R.kind] 3 (0,0)):=(by have h:=hq1;rw [show ((W1.alloc (.cells #[.string ⟨#[]⟩,.int .i64 0,.int .i64 0,.int .i64 0,.string ⟨#[]⟩,.int .i64 0,.slice none 0 0,.slice none 0 0,.slice none 0 0] 92)).drew).heap.size=W1.heap.size+1 by simp] at h;exact h));try (have kz:v1.heap[W1.heap.size]?=some (.cells #[.string ⟨#[]⟩,.int .i64 0,.int .i64 0,.int .i64 0,.string ⟨#[]⟩,.int .i64 0,.slice none 0 0,.slice none 0 0,.slice none 0 0] 92 (0,0)):=jag (show ((W1.alloc (.cells #[.string ⟨#[]⟩,.int .i64 0,.int .i64 0,.int .i64 0,.string ⟨#[]⟩,.int .i64 0,.slice none 0 0,.slice none 0 0,.slice none 0 0] 92)).drew).heap[W1.heap.size]?=_ from heap_alloc_new W1 _) hg1)) | (go_at_call 57;refine (FN.out _ _ _ (by first | exact g1_v1 | exact jaa g1_v1 (jab _ _)) (by first | exact hp1 | exact hp2 | exact jag hp1 (jab _ _)) (by first | exact hq1 | exact hq2 | exact jag hq1 (jab _ _))).mono ?_;rintro e v2 ⟨rfl,hg2⟩;have g1_v2:W1.grownBy v2 none:=(by first | exact jaa g1_v1 hg2 | exact jaa (jaa g1_v1 (jab _ _)) hg2);obtain ⟨n0,n1,n2,n3,n4⟩:=jak (n:=⟨op,nam,⟨ia,il,ic⟩,out,⟨ao,xs.length,cap⟩⟩) (BX.out v2 (jaa g1 g1_v2));obtain ⟨q0,q1,q2⟩:=jc8 (RB.out v2 g1_v2);try (first | have kz2:=jag kz hg2 | have kz2:v2.heap[v1.heap.size]?=some (.cells #[.string ⟨#[]⟩,.int .i64 0,.int .i64 0,.int .i64 0,.string ⟨#[]⟩,.int .i64 0,.slice none 0 0,.slice none 0 0,.slice none 0 0] 92 (0,0)):=jag (heap_alloc_new v1 _) hg2);try (obtain ⟨f0,f1,f2,f3,f4,f5,f6,f7,f8⟩:=jbF kz2);try (obtain ⟨k0,k1,k2,k3,k4,k5,k6,k7,k8⟩:=jaR (a:=jcM) kz2)))
           ·have GG:=jac g1_v2;go_wp2_with fail
            go_meet
            exact ⟨by rw [HF.out];rfl,jaa GG.out (jab v2 _)⟩
           ·obtain ⟨-,gX⟩:=jb9 (.string a.name) (.int .i64 a.kind) (.int .i64 a.f) (.int .i64 a.i) (.string a.s) (.int .i64 a.ty) (.slice a.dv.a a.dv.n a.dv.c) (.slice a.tv.a a.tv.n a.tv.c) (.slice a.iv.a a.iv.n a.iv.c) g1_v2 (show W1.heap.size≤v1.heap.size from g1_v1.size) kz2;have GX:=jac gX;clear gX;go_wp2_with fail
            go_meet
            exact ⟨by rw [HF.out];rfl,GX.out⟩
           ·obtain ⟨-,gX⟩:=jb9 (.string a.name) (.int .i64 a.kind) (.int .i64 a.f) (.int .i64 a.i) (.string a.s) (.int .i64 a.ty) (.slice a.dv.a a.dv.n a.dv.c) (.slice a.tv.a a.tv.n a.tv.c) (.slice a.iv.a a.iv.n a.iv.c) g1_v2 (Nat.le_refl _) kz2;have GX:=jac gX;clear gX;go_wp2_with fail
            go_meet
            exact ⟨by rw [HF.out];rfl,GX.out⟩
         case rest =>
          obtain ⟨rfl,hgc⟩:=hcut;obtain ⟨q0,q1,q2⟩:=jc8 (RB.out wc hgc);have gc:=jaa g1 hgc
          cases hm:R.must with
          | false =>
           have HS:Hid ((rs.take (k+1)).any (fun r=>r.must&&!(xs.find? (isA r.name r.kind)).isSome)=false):=jiz HNO.out HRK.out (by simp [hm]);rw [hm] at q2;go_wp2;go_roundw
           case rel=>exact ⟨gc,k+1,by omega,by go_num,HS.out⟩
           case measure=>simp [intOf];omega
          | true =>
           rw [hm] at q2
           cases hs:(xs.find? (isA R.name R.kind)).isSome with
           | true =>
            have HS:Hid ((rs.take (k+1)).any (fun r=>r.must&&!(xs.find? (isA r.name r.kind)).isSome)=false):=jiz HNO.out HRK.out (by simp [hs]);clear hs;go_wp2;go_roundw
            case rel=>exact ⟨gc,k+1,by omega,by go_num,HS.out⟩
            case measure=>simp [intOf];omega
           | false =>
            have E:Hid (jbU rs xs=4):=by
             show _=_;have h1:jsC rs xs=true:=List.any_eq_true.2 ⟨R,List.mem_of_getElem? HRK.out,by simp only [hm,hs];rfl⟩;unfold jbU;rw [HN.out];simp [h1]
            clear hs;go_wp2;go_ret;exact ⟨by rw [E.out];rfl,jaa g0 gc⟩
        ·obtain rfl:k=rs.length:=by omega
         have E:Hid (jbU rs xs=0):=by
          show _=_;have h1:=HNO.out;rw [List.take_of_length_le (Nat.le_refl _)] at h1;unfold jbU jsC;rw [HN.out];simp only [h1]
          rfl
         go_wp2;go_ret;exact ⟨by rw [E.out];rfl,jaa g0 hgr⟩
end Go.Proofs.YteigfipgmghgmaaGreatDoor
namespace Go.Proofs.YteigfipgmghgmaaGreatDoor
open Go.RowKit
def jbZ (r:Option (Int×Int×List Ra)) (ins:List ByteArray) (out:ByteArray) (xs:List Atr):Int:=match r with
 | none=>5
 | some (lo,hi,rs)=>if (ins.length:Int)<lo then 4 else if hi<(ins.length:Int) then 4 else if (out.toList==[])||ins.any (isS ⟨#[]⟩) then 5 else if jbU rs xs=0 then jfB (xs.find? (isA ⟨#[116,104,101,110]⟩ 3)) else jbU rs xs
end Go.Proofs.YteigfipgmghgmaaGreatDoor
