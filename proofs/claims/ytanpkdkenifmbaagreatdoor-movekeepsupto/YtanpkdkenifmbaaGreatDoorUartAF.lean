/- A part. -/
import Derived.Test.YtanpkdkenifmbaaGreatDoorUartAE
import Derived.Lib.Strings
import Derived.Lib.Walk
import Derived.Lib.BufferWrite
import Derived.Lib.UnsafeStr
import Derived.Laws.MakeOwn
set_option maxHeartbeats 6400000
set_option maxRecDepth 100000
namespace Go.Proofs.YtanpkdkenifmbaaGreatDoor
open Go.RowKit
theorem jor:(Tryz.prog.info? 5).map (fun i=>(i.zero,i.size,i.bytes))=some (some (.int .u8 0),1,1):=by kernel_rfl
theorem jgL (s:ByteArray) (w:World) (hlim:s.size≤281474976710656) :
    Calls Tryz.prog 127 #[.string s] w fun e w'=>e=.returned (.string s)∧Below w.heap.size w w':=by
     by_cases h0:s.size=0
     ·have hs:s=⟨#[]⟩:=ByteArray.ext (Array.eq_empty_of_size_eq_zero h0);subst hs;go_enter Tryz.func127,Tryz.ntmps127;go_wp2;go_ret;exact ⟨rfl,Below.refl _ _⟩
     ·obtain ⟨i0,hi,hz0,hz1,hz2⟩:=info_parts jor;have hinfo:(Tryz.prog.info? 5).map (·.size)=some 1:=by rw [hi];simp [hz1]
      have hco:Tryz.prog.cellsOf 5=1:=by simp [Program.cellsOf,hi,hz1]
      obtain ⟨M,hM⟩ : ∃ M,M=madeCells (Value.int .u8 0).cells (((s.size:Nat):Int).toNat*i0.size):=⟨_,rfl⟩
      have hMs:M.size=s.size:=by rw [hM,size_madeCells,hz1];simp
      have hmk:∀ W:World,(Instr.makeSlice 167 (.int .i64 (s.size:Int)) (.int .i64 (s.size:Int))).run Tryz.prog W=.ok (.slice (some ⟨W.heap.size,0,none⟩) s.size s.size) (W.alloc (.cells M 5)):=fun W=>by
       have h:=run_make (P:=Tryz.prog) W 167 5 i0 (.int .u8 0) Tryz.underlying167 hi hz0 .i64 .i64 (s.size:Int) (s.size:Int) (by omega) (by omega) (by rw [hz2];omega) (by omega);rw [← hM] at h;simpa using h
      clear hM;have hcp:=Lib.run_copy_row_string (P:=Tryz.prog) (w.alloc (.cells M 5)) 167 9 3 5 w.heap.size 0 s.size s.size s M 5 Tryz.underlying167 hinfo (heap_alloc_new w _) (Nat.le_refl _) (by omega);obtain ⟨Y,hY⟩ : ∃ Y,Y=(M.toList.take 0++Lib.byteCells s.data.toList++M.toList.drop (0+s.size)).toArray:=⟨_,rfl⟩
      rw [← hY] at hcp
      have hYl:Y.toList=Lib.byteCells s.data.toList:=by
       rw [hY,List.toList_toArray,List.take_zero,List.nil_append,List.drop_of_length_le (by rw [Array.length_toList];omega),List.append_nil]
      have hgY:((w.alloc (.cells M 5)).setRow w.heap.size Y).heap[w.heap.size]?=some (.cells Y 5 (0,0)):=setRow_heap _ _ M _ 5 (0,0) (heap_alloc_new w _);have hne:s.data.toList≠[]:=fun e=>h0 (by rw [Lib.size_eq,e];rfl);have hYs:Y.size=s.size:=by rw [← Array.length_toList,hYl,Lib.byteCells_length,← Lib.size_eq]
      have hUS:=Lib.run_unsafeString_row (P:=Tryz.prog) ((w.alloc (.cells M 5)).setRow w.heap.size Y) 168 3 9 5 Tryz.underlying168 hco w.heap.size Y.size (by unfold World.shape?;rw [hgY]) s.data.toList hne (by rw [← Lib.size_eq];omega) (by rw [← Lib.size_eq];omega)
       (fun j x hx=>Lib.cells_of_row hgY Y.size j _ (by rw [List.take_of_length_le (by rw [Array.length_toList];exact Nat.le_refl _),hYl];simp [Lib.byteCells,hx]))
      rw [← Lib.size_eq] at hUS;clear hY;go_enter Tryz.func127,Tryz.ntmps127;go_wp2;go_ret;have hb1:Below w.heap.size w (w.alloc (.cells M 5)):=(Below.refl _ w).alloc (Nat.le_refl _) _;have hb2:Below w.heap.size (w.alloc (.cells M 5)) ((w.alloc (.cells M 5)).setRow w.heap.size Y):=⟨rfl,rfl,rfl,by simp,fun k hk=>setRow_other _ _ _ _ (by omega)⟩
      exact ⟨rfl,Lib.below_freeze (hb1.trans hb2) (p:=⟨w.heap.size,0,none⟩) (Nat.le_refl _) _⟩
theorem jiB {w w':World} (h:Below w.heap.size w w'):w.grownBy w' none:=⟨h.os,h.tape,h.output,h.size,fun k hk _=>h.block k hk⟩
theorem jdg (s:ByteArray) (w:World) (hlim:s.size≤281474976710656) :
    Calls Tryz.prog 108 #[.string s] w fun e w'=>e=.returned (.string s)∧w.grownBy w' none:=by
     go_enter Tryz.func108,Tryz.ntmps108;go_wp2_with fail;refine (jgL s w hlim).mono ?_;rintro e w1 ⟨rfl,hb⟩;go_wp2;go_ret;exact ⟨rfl,jiB hb⟩
end Go.Proofs.YtanpkdkenifmbaaGreatDoor
namespace Go.Proofs.YtanpkdkenifmbaaGreatDoor
open Go.RowKit
def jjy:List (List UInt8):=[[73,100,101,110,116,105,116,121],[78,101,103],[65,98,115],[78,111,116],[82,101,108,117],[83,113,114,116],[70,108,111,111,114],[69,120,112],[83,105,103,109,111,105,100],[84,97,110,104]]
def Laid (w:World):Prop :=
 w.cell? ⟨0,0,none⟩=some (.string ⟨#[73,100,101,110,116,105,116,121]⟩)∧w.cell? ⟨0,1,none⟩=some (.string ⟨#[78,101,103]⟩)∧w.cell? ⟨0,2,none⟩=some (.string ⟨#[65,98,115]⟩)∧w.cell? ⟨0,3,none⟩=some (.string ⟨#[78,111,116]⟩)∧w.cell? ⟨0,4,none⟩=some (.string ⟨#[82,101,108,117]⟩)∧w.cell? ⟨0,5,none⟩=some (.string ⟨#[83,113,114,116]⟩)∧w.cell? ⟨0,6,none⟩=some (.string ⟨#[70,108,111,111,114]⟩)∧w.cell? ⟨0,7,none⟩=some (.string ⟨#[69,120,112]⟩)∧w.cell? ⟨0,8,none⟩=some (.string ⟨#[83,105,103,109,111,105,100]⟩)∧w.cell? ⟨0,9,none⟩=some (.string ⟨#[84,97,110,104]⟩)
theorem Laid.more {w w':World} (h:Laid w) (hg:w.grownBy w' none):Laid w':=by
 have hb:0<w.heap.size:=World.block_lt_of_cell? w _ h.1;have e:∀ j,w'.cell? ⟨0,j,none⟩=w.cell? ⟨0,j,none⟩:=fun j=>World.cell?_of_block (hg.block 0 hb (by simp));unfold Laid;simp only [e];exact h
theorem jb4 {l:List (List UInt8)} {f:List UInt8→Bool} {k:Nat} {x:List UInt8} (h:(l.take k).any f=false) (hx:l[k]?=some x) (hf:f x=false):(l.take (k+1)).any f=false:=by
 rw [List.take_add_one,List.any_append,h,hx];simp [hf]
def jaw (s:ByteArray):Bool:=jjy.any (fun n=>n==s.toList)
theorem jar (s:ByteArray) (w:World) (hl:Laid w) :
    Calls Tryz.prog 107 #[.string s] w fun e w'=>e=.returned (.bool (jaw s))∧w.grownBy w' none:=by
     obtain ⟨c0,c1,c2,c3,c4,c5,c6,c7,c8,c9⟩:=hl;go_enter Tryz.func107,Tryz.ntmps107;go_wp2_with fail;clear c0 c1 c2 c3 c4 c5 c6 c7 c8 c9;go_loopw [6] (fun i wr=>w.grownBy wr none∧∃ k:Nat,k≤10∧i=.int .i64 k∧(jjy.take k).any (fun n=>n==s.toList)=false) (fun i _=>10 - (intOf i).toNat)
     case atStart=>exact ⟨jae _,0,by omega,rfl,rfl⟩
     case round =>
      obtain ⟨hg,k,hk,rfl,hno⟩:=hrel;have HNO:=jac hno;clear hno;obtain rfl | rfl | rfl | rfl | rfl | rfl | rfl | rfl | rfl | rfl | rfl:k=0∨k=1∨k=2∨k=3∨k=4∨k=5∨k=6∨k=7∨k=8∨k=9∨k=10:=by omega
      ·have ix:∀ W,(Instr.index 159 (.agg #[.string ⟨#[73,100,101,110,116,105,116,121]⟩,.string ⟨#[78,101,103]⟩,.string ⟨#[65,98,115]⟩,.string ⟨#[78,111,116]⟩,.string ⟨#[82,101,108,117]⟩,.string ⟨#[83,113,114,116]⟩,.string ⟨#[70,108,111,111,114]⟩,.string ⟨#[69,120,112]⟩,.string ⟨#[83,105,103,109,111,105,100]⟩,.string ⟨#[84,97,110,104]⟩]) (.int .i64 0)).run Tryz.prog W=.ok (.string ⟨#[73,100,101,110,116,105,116,121]⟩) W:=fun _=>by kernel_rfl
       by_cases h:(([73,100,101,110,116,105,116,121]:List UInt8)==s.toList)=true
       ·have H:=jac h;go_wp2;go_ret;exact ⟨by have h1:=H.out;simp [jaw,jjy,eq_of_beq h1],hg⟩
       ·have h':(([73,100,101,110,116,105,116,121]:List UInt8)==s.toList)=false:=by simpa using h
        have H:=jac h';clear h;go_wp2;go_roundw
        case rel=>exact ⟨hg,1,by omega,by go_num,jb4 HNO.out rfl H.out⟩
        case measure=>simp [intOf]
      ·have ix:∀ W,(Instr.index 159 (.agg #[.string ⟨#[73,100,101,110,116,105,116,121]⟩,.string ⟨#[78,101,103]⟩,.string ⟨#[65,98,115]⟩,.string ⟨#[78,111,116]⟩,.string ⟨#[82,101,108,117]⟩,.string ⟨#[83,113,114,116]⟩,.string ⟨#[70,108,111,111,114]⟩,.string ⟨#[69,120,112]⟩,.string ⟨#[83,105,103,109,111,105,100]⟩,.string ⟨#[84,97,110,104]⟩]) (.int .i64 1)).run Tryz.prog W=.ok (.string ⟨#[78,101,103]⟩) W:=fun _=>by kernel_rfl
       by_cases h:(([78,101,103]:List UInt8)==s.toList)=true
       ·have H:=jac h;go_wp2;go_ret;exact ⟨by have h1:=H.out;simp [jaw,jjy,eq_of_beq h1],hg⟩
       ·have h':(([78,101,103]:List UInt8)==s.toList)=false:=by simpa using h
        have H:=jac h';clear h;go_wp2;go_roundw
        case rel=>exact ⟨hg,2,by omega,by go_num,jb4 HNO.out rfl H.out⟩
        case measure=>simp [intOf]
      ·have ix:∀ W,(Instr.index 159 (.agg #[.string ⟨#[73,100,101,110,116,105,116,121]⟩,.string ⟨#[78,101,103]⟩,.string ⟨#[65,98,115]⟩,.string ⟨#[78,111,116]⟩,.string ⟨#[82,101,108,117]⟩,.string ⟨#[83,113,114,116]⟩,.string ⟨#[70,108,111,111,114]⟩,.string ⟨#[69,120,112]⟩,.string ⟨#[83,105,103,109,111,105,100]⟩,.string ⟨#[84,97,110,104]⟩]) (.int .i64 2)).run Tryz.prog W=.ok (.string ⟨#[65,98,115]⟩) W:=fun _=>by kernel_rfl
       by_cases h:(([65,98,115]:List UInt8)==s.toList)=true
       ·have H:=jac h;go_wp2;go_ret;exact ⟨by have h1:=H.out;simp [jaw,jjy,eq_of_beq h1],hg⟩
       ·have h':(([65,98,115]:List UInt8)==s.toList)=false:=by simpa using h
        have H:=jac h';clear h;go_wp2;go_roundw
        case rel=>exact ⟨hg,3,by omega,by go_num,jb4 HNO.out rfl H.out⟩
        case measure=>simp [intOf]
      ·have ix:∀ W,(Instr.index 159 (.agg #[.string ⟨#[73,100,101,110,116,105,116,121]⟩,.string ⟨#[78,101,103]⟩,.string ⟨#[65,98,115]⟩,.string ⟨#[78,111,116]⟩,.string ⟨#[82,101,108,117]⟩,.string ⟨#[83,113,114,116]⟩,.string ⟨#[70,108,111,111,114]⟩,.string ⟨#[69,120,112]⟩,.string ⟨#[83,105,103,109,111,105,100]⟩,.string ⟨#[84,97,110,104]⟩]) (.int .i64 3)).run Tryz.prog W=.ok (.string ⟨#[78,111,116]⟩) W:=fun _=>by kernel_rfl
       by_cases h:(([78,111,116]:List UInt8)==s.toList)=true
       ·have H:=jac h;go_wp2;go_ret;exact ⟨by have h1:=H.out;simp [jaw,jjy,eq_of_beq h1],hg⟩
       ·have h':(([78,111,116]:List UInt8)==s.toList)=false:=by simpa using h
        have H:=jac h';clear h;go_wp2;go_roundw
        case rel=>exact ⟨hg,4,by omega,by go_num,jb4 HNO.out rfl H.out⟩
        case measure=>simp [intOf]
      ·have ix:∀ W,(Instr.index 159 (.agg #[.string ⟨#[73,100,101,110,116,105,116,121]⟩,.string ⟨#[78,101,103]⟩,.string ⟨#[65,98,115]⟩,.string ⟨#[78,111,116]⟩,.string ⟨#[82,101,108,117]⟩,.string ⟨#[83,113,114,116]⟩,.string ⟨#[70,108,111,111,114]⟩,.string ⟨#[69,120,112]⟩,.string ⟨#[83,105,103,109,111,105,100]⟩,.string ⟨#[84,97,110,104]⟩]) (.int .i64 4)).run Tryz.prog W=.ok (.string ⟨#[82,101,108,117]⟩) W:=fun _=>by kernel_rfl
       by_cases h:(([82,101,108,117]:List UInt8)==s.toList)=true
       ·have H:=jac h;go_wp2;go_ret;exact ⟨by have h1:=H.out;simp [jaw,jjy,eq_of_beq h1],hg⟩
       ·have h':(([82,101,108,117]:List UInt8)==s.toList)=false:=by simpa using h
        have H:=jac h';clear h;go_wp2;go_roundw
        case rel=>exact ⟨hg,5,by omega,by go_num,jb4 HNO.out rfl H.out⟩
        case measure=>simp [intOf]
      ·have ix:∀ W,(Instr.index 159 (.agg #[.string ⟨#[73,100,101,110,116,105,116,121]⟩,.string ⟨#[78,101,103]⟩,.string ⟨#[65,98,115]⟩,.string ⟨#[78,111,116]⟩,.string ⟨#[82,101,108,117]⟩,.string ⟨#[83,113,114,116]⟩,.string ⟨#[70,108,111,111,114]⟩,.string ⟨#[69,120,112]⟩,.string ⟨#[83,105,103,109,111,105,100]⟩,.string ⟨#[84,97,110,104]⟩]) (.int .i64 5)).run Tryz.prog W=.ok (.string ⟨#[83,113,114,116]⟩) W:=fun _=>by kernel_rfl
       by_cases h:(([83,113,114,116]:List UInt8)==s.toList)=true
       ·have H:=jac h;go_wp2;go_ret;exact ⟨by have h1:=H.out;simp [jaw,jjy,eq_of_beq h1],hg⟩
       ·have h':(([83,113,114,116]:List UInt8)==s.toList)=false:=by simpa using h
        have H:=jac h';clear h;go_wp2;go_roundw
        case rel=>exact ⟨hg,6,by omega,by go_num,jb4 HNO.out rfl H.out⟩
        case measure=>simp [intOf]
      ·have ix:∀ W,(Instr.index 159 (.agg #[.string ⟨#[73,100,101,110,116,105,116,121]⟩,.string ⟨#[78,101,103]⟩,.string ⟨#[65,98,115]⟩,.string ⟨#[78,111,116]⟩,.string ⟨#[82,101,108,117]⟩,.string ⟨#[83,113,114,116]⟩,.string ⟨#[70,108,111,111,114]⟩,.string ⟨#[69,120,112]⟩,.string ⟨#[83,105,103,109,111,105,100]⟩,.string ⟨#[84,97,110,104]⟩]) (.int .i64 6)).run Tryz.prog W=.ok (.string ⟨#[70,108,111,111,114]⟩) W:=fun _=>by kernel_rfl
       by_cases h:(([70,108,111,111,114]:List UInt8)==s.toList)=true
       ·have H:=jac h;go_wp2;go_ret;exact ⟨by have h1:=H.out;simp [jaw,jjy,eq_of_beq h1],hg⟩
       ·have h':(([70,108,111,111,114]:List UInt8)==s.toList)=false:=by simpa using h
        have H:=jac h';clear h;go_wp2;go_roundw
        case rel=>exact ⟨hg,7,by omega,by go_num,jb4 HNO.out rfl H.out⟩
        case measure=>simp [intOf]
      ·have ix:∀ W,(Instr.index 159 (.agg #[.string ⟨#[73,100,101,110,116,105,116,121]⟩,.string ⟨#[78,101,103]⟩,.string ⟨#[65,98,115]⟩,.string ⟨#[78,111,116]⟩,.string ⟨#[82,101,108,117]⟩,.string ⟨#[83,113,114,116]⟩,.string ⟨#[70,108,111,111,114]⟩,.string ⟨#[69,120,112]⟩,.string ⟨#[83,105,103,109,111,105,100]⟩,.string ⟨#[84,97,110,104]⟩]) (.int .i64 7)).run Tryz.prog W=.ok (.string ⟨#[69,120,112]⟩) W:=fun _=>by kernel_rfl
       by_cases h:(([69,120,112]:List UInt8)==s.toList)=true
       ·have H:=jac h;go_wp2;go_ret;exact ⟨by have h1:=H.out;simp [jaw,jjy,eq_of_beq h1],hg⟩
       ·have h':(([69,120,112]:List UInt8)==s.toList)=false:=by simpa using h
        have H:=jac h';clear h;go_wp2;go_roundw
        case rel=>exact ⟨hg,8,by omega,by go_num,jb4 HNO.out rfl H.out⟩
        case measure=>simp [intOf]
      ·have ix:∀ W,(Instr.index 159 (.agg #[.string ⟨#[73,100,101,110,116,105,116,121]⟩,.string ⟨#[78,101,103]⟩,.string ⟨#[65,98,115]⟩,.string ⟨#[78,111,116]⟩,.string ⟨#[82,101,108,117]⟩,.string ⟨#[83,113,114,116]⟩,.string ⟨#[70,108,111,111,114]⟩,.string ⟨#[69,120,112]⟩,.string ⟨#[83,105,103,109,111,105,100]⟩,.string ⟨#[84,97,110,104]⟩]) (.int .i64 8)).run Tryz.prog W=.ok (.string ⟨#[83,105,103,109,111,105,100]⟩) W:=fun _=>by kernel_rfl
       by_cases h:(([83,105,103,109,111,105,100]:List UInt8)==s.toList)=true
       ·have H:=jac h;go_wp2;go_ret;exact ⟨by have h1:=H.out;simp [jaw,jjy,eq_of_beq h1],hg⟩
       ·have h':(([83,105,103,109,111,105,100]:List UInt8)==s.toList)=false:=by simpa using h
        have H:=jac h';clear h;go_wp2;go_roundw
        case rel=>exact ⟨hg,9,by omega,by go_num,jb4 HNO.out rfl H.out⟩
        case measure=>simp [intOf]
      ·have ix:∀ W,(Instr.index 159 (.agg #[.string ⟨#[73,100,101,110,116,105,116,121]⟩,.string ⟨#[78,101,103]⟩,.string ⟨#[65,98,115]⟩,.string ⟨#[78,111,116]⟩,.string ⟨#[82,101,108,117]⟩,.string ⟨#[83,113,114,116]⟩,.string ⟨#[70,108,111,111,114]⟩,.string ⟨#[69,120,112]⟩,.string ⟨#[83,105,103,109,111,105,100]⟩,.string ⟨#[84,97,110,104]⟩]) (.int .i64 9)).run Tryz.prog W=.ok (.string ⟨#[84,97,110,104]⟩) W:=fun _=>by kernel_rfl
       by_cases h:(([84,97,110,104]:List UInt8)==s.toList)=true
       ·have H:=jac h;go_wp2;go_ret;exact ⟨by have h1:=H.out;simp [jaw,jjy,eq_of_beq h1],hg⟩
       ·have h':(([84,97,110,104]:List UInt8)==s.toList)=false:=by simpa using h
        have H:=jac h';clear h;go_wp2;go_roundw
        case rel=>exact ⟨hg,10,by omega,by go_num,jb4 HNO.out rfl H.out⟩
        case measure=>simp [intOf]
      ·go_wp2;go_ret;exact ⟨by have h1:=HNO.out;rw [show jaw s=(jjy.take 10).any (fun n=>n==s.toList) from rfl,h1];rfl,hg⟩
end Go.Proofs.YtanpkdkenifmbaaGreatDoor
namespace Go.Proofs.YtanpkdkenifmbaaGreatDoor
open Go.RowKit
def pcs:List UInt8→List (List UInt8)
 | []=>[[]]
 | c::l=>if c=44 then []::pcs l else match pcs l with
  | []=>[[c]]
  | p::ps=>(c::p)::ps
theorem jjz:∀ {l:List UInt8},(∀ k:Nat,l[k]?≠some 44)→pcs l=[l]
 | [],_=>rfl
 | c::l,h=>by
  have h0:c≠44:=fun e=>h 0 (by simp [e]);have h1:∀ k:Nat,l[k]?≠some 44:=fun k=>by have:=h (k+1);simpa using this
  rw [pcs,if_neg h0,jjz h1]
theorem jlG:∀ {l:List UInt8} {i:Nat},l[i]?=some 44→(∀ k,k<i→l[k]?≠some 44)→pcs l=l.take i::pcs (l.drop (i+1))
 | [],i,h,_=>by simp at h
 | c::l,0,h,_=>by
  have h0:c=44:=by simpa using h
  rw [pcs,if_pos h0];simp
 | c::l,i+1,h,hn=>by
  have h0:c≠44:=fun e=>hn 0 (by omega) (by simp [e]);have h1:=jlG (l:=l) (i:=i) (by simpa using h) (fun k hk=>by have:=hn (k+1) (by omega);simpa using this);rw [pcs,if_neg h0,h1];simp
theorem jiC:∀ l:List UInt8,(pcs l).length≤l.length+1
 | []=>Nat.le_refl _
 | c::l=>by
  have h:=jiC l;rw [pcs]
  split
  ·simpa using h
  ·split
   ·simp
   ·rename_i p ps e;rw [e] at h;simp at h ⊢;omega
abbrev jfO (s:ByteArray):List Value:=[.string s]
abbrev jos (w:World) (base:Nat) (v:Value) (xs:List ByteArray):Prop:=ja6 9 1 jfO w base v xs
theorem jqA:(Tryz.prog.info? 9).map (fun i=>(i.zero,i.size,i.bytes))=some (some (.string ⟨#[]⟩),1,16):=by kernel_rfl
def B (l:List UInt8):ByteArray:=⟨l.toArray⟩
def je3 (o:Option Atr):Int:=match o with
 | none=>0
 | some a=>if (pcs a.s.data.toList).all (fun p=>jaw (B p)) then 0 else 4
def jdU (o:Option Atr):List ByteArray:=match o with
 | none=>[]
 | some a=>if (pcs a.s.data.toList).all (fun p=>jaw (B p)) then (pcs a.s.data.toList).map B else []
theorem jki (s:ByteArray) (i:Nat):s.extract 0 i=B (s.data.toList.take i):=by
 unfold B;rw [Lib.extract_eq];simp
theorem jkj (s:ByteArray) (i:Nat):s.extract i s.size=B (s.data.toList.drop i):=by
 unfold B;rw [Lib.extract_eq];have:(s.data.toList.drop i).take (s.size - i)=s.data.toList.drop i:=List.take_of_length_le (by simp);rw [this]
theorem jlH (l:List UInt8):(B l).size=l.length:=by show l.toArray.size=_;simp
theorem jqc (l:List UInt8):(B l).data.toList=l:=by simp [B]
theorem jjA (s:ByteArray):B s.data.toList=s:=Lib.mk_data s
theorem jot {a:Atr} {acc:List (List UInt8)} (h:pcs a.s.data.toList=acc) (hall:acc.all (fun p=>jaw (B p))=true):je3 (some a)=0∧jdU (some a)=acc.map B:=by
 subst h;unfold je3 jdU;simp only [hall,if_true,and_self]
theorem jjB {a:Atr} {acc q:List (List UInt8)} {p:List UInt8} (h:pcs a.s.data.toList=acc++p::q) (hp:jaw (B p)=false):je3 (some a)=4∧jdU (some a)=[]:=by
 have:(pcs a.s.data.toList).all (fun p=>jaw (B p))=false:=by rw [h];simp [hp]
 unfold je3 jdU;simp [this]
theorem jjC {w:World} {base:Nat} {e:TypeId} {v:Value} {n:Nat} {xs:List Value} (h:w.ownsRow base e 1 v n xs):∃ a c,v=.slice a n c:=by
 rcases h.2 with ⟨rfl,rfl⟩ | ⟨g,cap,cur,rfl,_⟩
 ·exact ⟨_,_,rfl⟩
 ·exact ⟨_,_,rfl⟩
theorem jht {w:World} {base:Nat} {v:Value} {acc:List (List UInt8)} {p:List UInt8} {n:Nat} (hn:n=(acc.map B).length+1) (h:w.ownsRow base 9 1 v n ((acc.map B).flatMap jfO++[.string (B p)])):jos w base v ((acc++[p]).map B):=by
 subst hn;unfold jos ja6;simpa using h
theorem jct (nm:ByteArray) (kd:Int) (w:World) :
    Calls Tryz.prog 60 #[.string nm,.int .i64 kd] w fun e w'=>e=.returned (.func (.func 78) #[] #[.pointer (some ⟨w.heap.size,0,none⟩),.pointer (some ⟨w.heap.size+1,0,none⟩)])∧w'.heap[w.heap.size]?=some (.cells #[.string nm] 9 (0,0))∧w'.heap[w.heap.size+1]?=some (.cells #[.int .i64 kd] 3 (0,0))∧w.grownBy w' none:=by
     have BX:=jac (jaJ w (.cells #[.string nm] 9) (.cells #[.int .i64 kd] 3));go_enter Tryz.func60,Tryz.ntmps60;go_wp2;go_ret;exact ⟨rfl,BX.out.1,BX.out.2,jaa (jab _ _) (jab _ _)⟩
theorem jjD (n:Nod) (xs:List Atr) (w:World) (hl:Laid w) (hv:jcc w n.av.v xs) (hsz:∀ a∈xs,a.s.size≤4294967296) :
    Calls Tryz.prog 72 #[jaA n] w fun e w'=>∃ v,e=.returned (.tuple #[v,.int .i64 (je3 (xs.find? (isA ⟨#[116,104,101,110]⟩ 3)))])∧jos w' w.heap.size v (jdU (xs.find? (isA ⟨#[116,104,101,110]⟩ 3)))∧w.grownBy w' none:=by
     have HL:=jac hl;have HV:=jac hv;have FN:=jac (fun (p q:Nat) (wx:World) (hg:w.grownBy wx none) (hp:wx.heap[p]?=some (.cells #[.string ⟨#[116,104,101,110]⟩] 9 (0,0))) (hq:wx.heap[q]?=some (.cells #[.int .i64 3] 3 (0,0)))=>jcs n xs p q ⟨#[116,104,101,110]⟩ 3 wx (HV.out.more hg) hp hq);obtain ⟨op,nam,⟨ia,il,ic⟩,out,⟨ao,al,cap⟩⟩:=n;unfold jaA at FN ⊢;simp only at FN ⊢;clear hl hv;obtain ⟨w0,hw0⟩ : ∃ w0,w0=w.alloc (.cells #[.string op,.string nam,.slice ia il ic,.string out,.slice ao al cap] 25):=⟨_,rfl⟩
     have g0:w.grownBy w0 none:=by rw [hw0];exact jab _ _
     have hb0:=heap_alloc_new w (.cells #[.string op,.string nam,.slice ia il ic,.string out,.slice ao al cap] 25);rw [← hw0] at hb0;have HZ0:Hid (w0.heap.size=w.heap.size+1):=by rw [hw0];simp [Hid]
     have BX:Hid (∀ wx,w0.grownBy wx none→wx.heap[w.heap.size]?=some (.cells #[.string op,.string nam,.slice ia il ic,.string out,.slice ao al cap] 25 (0,0))):=fun wx hg=>jag hb0 hg;clear hb0
     cases hf:xs.find? (isA ⟨#[116,104,101,110]⟩ 3) with
     | none =>
      clear hsz;rw [hf] at FN;simp only [Option.getD_none,jlu,jcG,Option.isSome_none] at FN;go_enter Tryz.func72,Tryz.ntmps72;go_wp2;rw [← hw0];clear hw0;obtain ⟨n0,n1,n2,n3,n4⟩:=jai (n:=⟨op,nam,⟨ia,il,ic⟩,out,⟨ao,al,cap⟩⟩) (BX.out w0 (jae _));have gd:=jaf (jae w0);go_region_held3 (fun w'=>w'.cell? ⟨w.heap.size,0,none⟩=some (.string op)∧w'.cell? ⟨w.heap.size,1,none⟩=some (.string nam)∧w'.cell? ⟨w.heap.size,2,none⟩=some (.slice ia il ic)∧w'.cell? ⟨w.heap.size,3,none⟩=some (.string out)∧w'.cell? ⟨w.heap.size,4,none⟩=some (.slice ao al cap)) (go_keep) (first | (go_at_call 60;refine (jct _ _ _).mono ?_;rintro e w1 ⟨rfl,hp1,hq1,hg1⟩;have g01:w0.grownBy w1 none:=(by first | exact jaa gd hg1 | exact jaa (jaa gd (jab _ _)) hg1);obtain ⟨n0,n1,n2,n3,n4⟩:=jai (n:=⟨op,nam,⟨ia,il,ic⟩,out,⟨ao,al,cap⟩⟩) (BX.out w1 g01);have hz1:w.heap.size≠w1.heap.size:=(by have:=g01.size;have:=HZ0.out;omega);have hzz:w.heap.size≠w0.heap.size:=(by have:=HZ0.out;omega);have hz1':=hz1.symm;have hzz':=hzz.symm;try (have hp2:w1.heap[w0.heap.size+1]?=some (.cells #[.string ⟨#[116,104,101,110]⟩] 9 (0,0)):=(by have h:=hp1;rw [show ((w0.alloc (.cells #[.string ⟨#[]⟩,.int .i64 0,.int .i64 0,.int .i64 0,.string ⟨#[]⟩,.int .i64 0,.slice none 0 0,.slice none 0 0,.slice none 0 0] 68)).drew).heap.size=w0.heap.size+1 by simp] at h;exact h));try (have hq2:w1.heap[w0.heap.size+1+1]?=some (.cells #[.int .i64 3] 3 (0,0)):=(by have h:=hq1;rw [show ((w0.alloc (.cells #[.string ⟨#[]⟩,.int .i64 0,.int .i64 0,.int .i64 0,.string ⟨#[]⟩,.int .i64 0,.slice none 0 0,.slice none 0 0,.slice none 0 0] 68)).drew).heap.size=w0.heap.size+1 by simp] at h;exact h));try (have kz:w1.heap[w0.heap.size]?=some (.cells #[.string ⟨#[]⟩,.int .i64 0,.int .i64 0,.int .i64 0,.string ⟨#[]⟩,.int .i64 0,.slice none 0 0,.slice none 0 0,.slice none 0 0] 68 (0,0)):=jag (show ((w0.alloc (.cells #[.string ⟨#[]⟩,.int .i64 0,.int .i64 0,.int .i64 0,.string ⟨#[]⟩,.int .i64 0,.slice none 0 0,.slice none 0 0,.slice none 0 0] 68)).drew).heap[w0.heap.size]?=_ from heap_alloc_new w0 _) hg1)) | (go_at_call 59;refine (FN.out _ _ _ (by first | exact jaa g0 g01 | exact jaa (jaa g0 g01) (jab _ _)) (by first | exact hp1 | exact hp2 | exact jag hp1 (jab _ _)) (by first | exact hq1 | exact hq2 | exact jag hq1 (jab _ _))).mono ?_;rintro e w2 ⟨rfl,hg2⟩;have g02:w0.grownBy w2 none:=(by first | exact jaa g01 hg2 | exact jaa (jaa g01 (jab _ _)) hg2);obtain ⟨n0,n1,n2,n3,n4⟩:=jai (n:=⟨op,nam,⟨ia,il,ic⟩,out,⟨ao,al,cap⟩⟩) (BX.out w2 g02);try (first | have kz2:=jag kz hg2 | have kz2:w2.heap[w1.heap.size]?=some (.cells #[.string ⟨#[]⟩,.int .i64 0,.int .i64 0,.int .i64 0,.string ⟨#[]⟩,.int .i64 0,.slice none 0 0,.slice none 0 0,.slice none 0 0] 68 (0,0)):=jag (heap_alloc_new w1 _) hg2);try (obtain ⟨f0,f1,f2,f3,f4,f5,f6,f7,f8⟩:=jbP kz2);try (obtain ⟨k0,k1,k2,k3,k4,k5,k6,k7,k8⟩:=ja2 (a:=jcG) kz2)))
      ·have gX:=jaa (jaa g0 g02) (jab w2 (.cells #[.string ⟨#[]⟩,.int .i64 0,.int .i64 0,.int .i64 0,.string ⟨#[]⟩,.int .i64 0,.slice none 0 0,.slice none 0 0,.slice none 0 0] 68));have GX:=jac gX;clear gX;go_wp2;go_ret2;exact ⟨_,rfl,ja6.nil _ _ _ _ _,GX.out⟩
      ·obtain ⟨-,gX⟩:=jci (.string ⟨#[]⟩) (.int .i64 0) (.int .i64 0) (.int .i64 0) (.string ⟨#[]⟩) (.int .i64 0) (.slice none 0 0) (.slice none 0 0) (.slice none 0 0) (jaa g0 g02) (show w.heap.size≤w1.heap.size by have:=g01.size;have:=HZ0.out;omega) kz2;have GX:=jac gX;clear gX;go_wp2;go_ret2;exact ⟨_,rfl,ja6.nil _ _ _ _ _,GX.out⟩
      ·obtain ⟨-,gX⟩:=jci (.string ⟨#[]⟩) (.int .i64 0) (.int .i64 0) (.int .i64 0) (.string ⟨#[]⟩) (.int .i64 0) (.slice none 0 0) (.slice none 0 0) (.slice none 0 0) (jaa g0 g02) (show w.heap.size≤w0.heap.size by have:=HZ0.out;omega) kz2;have GX:=jac gX;clear gX;go_wp2;go_ret2;exact ⟨_,rfl,ja6.nil _ _ _ _ _,GX.out⟩
     | some a =>
      have hbig:a.s.size≤4294967296:=hsz a (List.mem_of_find?_eq_some hf);rw [hf] at FN;simp only [Option.getD_some,jlu,Option.isSome_some] at FN;clear hf hsz;go_enter Tryz.func72,Tryz.ntmps72;go_wp2;rw [← hw0];clear hw0;go_cut [4,5] from 10 (fun p b wx=>∃ N:Nat,p=.pointer (some ⟨N,0,none⟩)∧b=.bool true∧wx.heap[N]?=some (.cells #[.string a.name,.int .i64 a.kind,.int .i64 a.f,.int .i64 a.i,.string a.s,.int .i64 a.ty,.slice a.dv.a a.dv.n a.dv.c,.slice a.tv.a a.tv.n a.tv.c,.slice a.iv.a a.iv.n a.iv.c] 68 (0,0))∧w.grownBy wx none)
      case first =>
       obtain ⟨n0,n1,n2,n3,n4⟩:=jai (n:=⟨op,nam,⟨ia,il,ic⟩,out,⟨ao,al,cap⟩⟩) (BX.out w0 (jae _));have gd:=jaf (jae w0);go_region_held3 (fun w'=>w'.cell? ⟨w.heap.size,0,none⟩=some (.string op)∧w'.cell? ⟨w.heap.size,1,none⟩=some (.string nam)∧w'.cell? ⟨w.heap.size,2,none⟩=some (.slice ia il ic)∧w'.cell? ⟨w.heap.size,3,none⟩=some (.string out)∧w'.cell? ⟨w.heap.size,4,none⟩=some (.slice ao al cap)) (go_keep) (first | (go_at_call 60;refine (jct _ _ _).mono ?_;rintro e w1 ⟨rfl,hp1,hq1,hg1⟩;have g01:w0.grownBy w1 none:=(by first | exact jaa gd hg1 | exact jaa (jaa gd (jab _ _)) hg1);obtain ⟨n0,n1,n2,n3,n4⟩:=jai (n:=⟨op,nam,⟨ia,il,ic⟩,out,⟨ao,al,cap⟩⟩) (BX.out w1 g01);have hz1:w.heap.size≠w1.heap.size:=(by have:=g01.size;have:=HZ0.out;omega);have hzz:w.heap.size≠w0.heap.size:=(by have:=HZ0.out;omega);have hz1':=hz1.symm;have hzz':=hzz.symm;try (have hp2:w1.heap[w0.heap.size+1]?=some (.cells #[.string ⟨#[116,104,101,110]⟩] 9 (0,0)):=(by have h:=hp1;rw [show ((w0.alloc (.cells #[.string ⟨#[]⟩,.int .i64 0,.int .i64 0,.int .i64 0,.string ⟨#[]⟩,.int .i64 0,.slice none 0 0,.slice none 0 0,.slice none 0 0] 68)).drew).heap.size=w0.heap.size+1 by simp] at h;exact h));try (have hq2:w1.heap[w0.heap.size+1+1]?=some (.cells #[.int .i64 3] 3 (0,0)):=(by have h:=hq1;rw [show ((w0.alloc (.cells #[.string ⟨#[]⟩,.int .i64 0,.int .i64 0,.int .i64 0,.string ⟨#[]⟩,.int .i64 0,.slice none 0 0,.slice none 0 0,.slice none 0 0] 68)).drew).heap.size=w0.heap.size+1 by simp] at h;exact h));try (have kz:w1.heap[w0.heap.size]?=some (.cells #[.string ⟨#[]⟩,.int .i64 0,.int .i64 0,.int .i64 0,.string ⟨#[]⟩,.int .i64 0,.slice none 0 0,.slice none 0 0,.slice none 0 0] 68 (0,0)):=jag (show ((w0.alloc (.cells #[.string ⟨#[]⟩,.int .i64 0,.int .i64 0,.int .i64 0,.string ⟨#[]⟩,.int .i64 0,.slice none 0 0,.slice none 0 0,.slice none 0 0] 68)).drew).heap[w0.heap.size]?=_ from heap_alloc_new w0 _) hg1)) | (go_at_call 59;refine (FN.out _ _ _ (by first | exact jaa g0 g01 | exact jaa (jaa g0 g01) (jab _ _)) (by first | exact hp1 | exact hp2 | exact jag hp1 (jab _ _)) (by first | exact hq1 | exact hq2 | exact jag hq1 (jab _ _))).mono ?_;rintro e w2 ⟨rfl,hg2⟩;have g02:w0.grownBy w2 none:=(by first | exact jaa g01 hg2 | exact jaa (jaa g01 (jab _ _)) hg2);obtain ⟨n0,n1,n2,n3,n4⟩:=jai (n:=⟨op,nam,⟨ia,il,ic⟩,out,⟨ao,al,cap⟩⟩) (BX.out w2 g02);try (first | have kz2:=jag kz hg2 | have kz2:w2.heap[w1.heap.size]?=some (.cells #[.string ⟨#[]⟩,.int .i64 0,.int .i64 0,.int .i64 0,.string ⟨#[]⟩,.int .i64 0,.slice none 0 0,.slice none 0 0,.slice none 0 0] 68 (0,0)):=jag (heap_alloc_new w1 _) hg2);try (obtain ⟨f0,f1,f2,f3,f4,f5,f6,f7,f8⟩:=jbP kz2);try (obtain ⟨k0,k1,k2,k3,k4,k5,k6,k7,k8⟩:=ja2 (a:=jcG) kz2)))
       ·have GG:=jac (jaa g0 g02);go_wp2_with fail
        go_meet
        exact ⟨_,rfl,rfl,heap_alloc_new w2 _,jaa GG.out (jab w2 _)⟩
       ·obtain ⟨hX,gX⟩:=jci (.string a.name) (.int .i64 a.kind) (.int .i64 a.f) (.int .i64 a.i) (.string a.s) (.int .i64 a.ty) (.slice a.dv.a a.dv.n a.dv.c) (.slice a.tv.a a.tv.n a.tv.c) (.slice a.iv.a a.iv.n a.iv.c) (jaa g0 g02) (show w.heap.size≤w1.heap.size by have:=g01.size;have:=HZ0.out;omega) kz2;have HX:=jac hX;have GX:=jac gX;clear hX gX;go_wp2_with fail
        go_meet
        exact ⟨_,rfl,rfl,HX.out,GX.out⟩
       ·obtain ⟨hX,gX⟩:=jci (.string a.name) (.int .i64 a.kind) (.int .i64 a.f) (.int .i64 a.i) (.string a.s) (.int .i64 a.ty) (.slice a.dv.a a.dv.n a.dv.c) (.slice a.tv.a a.tv.n a.tv.c) (.slice a.iv.a a.iv.n a.iv.c) (jaa g0 g02) (show w.heap.size≤w0.heap.size by have:=HZ0.out;omega) kz2;have HX:=jac hX;have GX:=jac gX;clear hX gX;go_wp2_with fail
        go_meet
        exact ⟨_,rfl,rfl,HX.out,GX.out⟩
      case rest =>
       obtain ⟨N,rfl,rfl,hN,hg⟩:=hcut;obtain ⟨-,-,-,-,cS,-⟩:=ja2 hN;clear hN;have LA:=jac (HL.out.more hg);have HG:=jac hg;obtain ⟨i0,hi,hz0,hz1,hz2⟩:=info_parts jqA;clear hg HL HV FN BX HZ0 g0;go_wp2_with fail;go_loopg [6,7,8] (a.s.size+1) (fun f lv rv mv wr=>∃ (acc:List (List UInt8)) (R:List UInt8) (more:Bool) (v:Value),lv=v∧rv=.string (B R)∧mv=.bool more∧f=(if more then R.length+1 else 0)∧R.length≤a.s.size∧jos wr wc.heap.size v (acc.map B)∧acc.all (fun p=>jaw (B p))=true∧pcs a.s.data.toList=acc++(if more then pcs R else [])∧wc.grownBy wr none)
       case atStart=>exact ⟨[],a.s.data.toList,true,_,rfl,by rw [jjA],rfl,by simp,by simp,ja6.nil _ _ _ _ _,rfl,rfl,jae _⟩
       case round =>
        obtain ⟨acc,R,more,v,rfl,rfl,rfl,rfl,hR,hown,hall,hpcs,hw⟩:=hrel;have HO:=jac hown;have HA:=jac hall;have HP:=jac hpcs;obtain ⟨va,vc,ev⟩:=ja6.form hown;rw [List.length_map] at ev;subst ev
        have hlen:acc.length≤a.s.size+1:=by
         have h1:=jiC a.s.data.toList;rw [hpcs,List.length_append] at h1;simp at h1;omega
        clear hown hall hpcs cS
        cases more with
        | false =>
         have hpc:pcs a.s.data.toList=acc:=by have:=HP.out;simpa using this
         obtain ⟨t1,t2⟩:=jot hpc HA.out;have HT1:=jac t1;have HT2:=jac t2;clear hpc t1 t2;go_wp2;go_ret2;exact ⟨_,by rw [HT1.out];rfl,by rw [HT2.out];exact HO.out.base_le HG.out.size,jaa HG.out hw⟩
        | true =>
         have hBs:(B R).size=R.length:=jlH R;have HBS:=jac hBs;have CU:=jac (jqz (B R) wr (by omega));clear hBs;go_wp2_with fail;refine CU.out.mono ?_;rintro e w5 ⟨hc,hg5⟩;have g5:=jaa hw hg5
         rcases hc with ⟨i,hi1,hi2,hi3,rfl⟩ | ⟨hno,rfl⟩
         ·have eR:(B R).data.toList=R:=jqc R;rw [eR] at hi2 hi3;rw [HBS.out] at hi1;rw [jki,jkj,eR]
          have HPC:Hid (pcs a.s.data.toList=acc++R.take i::pcs (R.drop (i+1))):=by
           have h1:=HP.out;rw [if_pos trivial,jlG hi2 hi3] at h1;exact h1
          clear hi2 hi3 eR;have OO:=jac (fun (wx:World) (hx:wc.grownBy wx none)=>jar (B (R.take i)) wx (LA.out.more hx));have CL:=jac (fun (wx:World)=>jdg (B (R.take i)) wx (by rw [jlH];simp;omega));go_wp2_with fail;refine (OO.out w5 g5).mono ?_;rintro e w6 ⟨rfl,hg6⟩;have g6:=jaa g5 hg6
          cases ht:jaw (B (R.take i)) with
          | false =>
           obtain ⟨t1,t2⟩:=jjB HPC.out ht;have HT1:=jac t1;have HT2:=jac t2;clear t1 t2 ht;go_wp2;go_ret2;exact ⟨_,by rw [HT1.out];rfl,by rw [HT2.out];exact ja6.nil _ _ _ _ _,jaa HG.out g6⟩
          | true =>
           have HT:=jac ht;clear ht;go_wp2_with fail;refine (CL.out w6).mono ?_;rintro e w7 ⟨rfl,hb7⟩;have g7:=jaa g6 hb7;have HO7:=jac (HO.out.more (jaa (jaa hg5 hg6) hb7));have hsz7:=g7.size;go_wp2_with (at_builtin;refine wpList_append_own _ rfl (.tmp 30) (.tmp 33) 22 rfl wc.heap.size 9 i0 (.string ⟨#[]⟩) 1 16 Tryz.underlying22 hi hz0 hz1 hz2 rfl (by decide) _ _ _ rfl (by exact World.ownsRow.alloc HO7.out _) ⟨w7.heap.size,0,none⟩ 1 1 [.string (B (R.take i))] rfl rfl (cell_one_new _ _ _) (by simp [Value.oneCell']) (by simp only [maxLen,List.length_map];omega) (by simp only [List.length_map];omega) (by simp;omega) ?_;intro v' w8 hown' hgrow _;obtain ⟨na,nc,rfl⟩:=jjC hown';have HO8:=jac (jht rfl hown');have g8:=jao (jaa g7 (jab _ _)) hgrow (fun g hg'=>(World.ownsRow.lt HO7.out g hg').1);clear hown' hgrow);go_wp2;go_roundg ((R.drop (i+1)).length+1)
           case measure=>simp;omega
           case rel=>exact ⟨acc++[R.take i],R.drop (i+1),true,_,rfl,rfl,rfl,by simp,by simp;omega,(by have h:=HO8.out;rw [List.length_map] at h;exact h),by simp [HA.out,HT.out],by rw [HPC.out];simp,g8⟩
         ·have eR:(B R).data.toList=R:=jqc R;rw [eR] at hno
          have HPC:Hid (pcs a.s.data.toList=acc++R::[]):=by
           have h1:=HP.out;rw [if_pos trivial,jjz hno] at h1;exact h1
          clear hno eR;have OO:=jac (fun (wx:World) (hx:wc.grownBy wx none)=>jar (B (R)) wx (LA.out.more hx));have CL:=jac (fun (wx:World)=>jdg (B (R)) wx (by rw [jlH];omega));go_wp2_with fail;refine (OO.out w5 g5).mono ?_;rintro e w6 ⟨rfl,hg6⟩;have g6:=jaa g5 hg6
          cases ht:jaw (B (R)) with
          | false =>
           obtain ⟨t1,t2⟩:=jjB HPC.out ht;have HT1:=jac t1;have HT2:=jac t2;clear t1 t2 ht;go_wp2;go_ret2;exact ⟨_,by rw [HT1.out];rfl,by rw [HT2.out];exact ja6.nil _ _ _ _ _,jaa HG.out g6⟩
          | true =>
           have HT:=jac ht;clear ht;go_wp2_with fail;refine (CL.out w6).mono ?_;rintro e w7 ⟨rfl,hb7⟩;have g7:=jaa g6 hb7;have HO7:=jac (HO.out.more (jaa (jaa hg5 hg6) hb7));have hsz7:=g7.size;go_wp2_with (at_builtin;refine wpList_append_own _ rfl (.tmp 30) (.tmp 33) 22 rfl wc.heap.size 9 i0 (.string ⟨#[]⟩) 1 16 Tryz.underlying22 hi hz0 hz1 hz2 rfl (by decide) _ _ _ rfl (by exact World.ownsRow.alloc HO7.out _) ⟨w7.heap.size,0,none⟩ 1 1 [.string (B (R))] rfl rfl (cell_one_new _ _ _) (by simp [Value.oneCell']) (by simp only [maxLen,List.length_map];omega) (by simp only [List.length_map];omega) (by simp;omega) ?_;intro v' w8 hown' hgrow _;obtain ⟨na,nc,rfl⟩:=jjC hown';have HO8:=jac (jht rfl hown');have g8:=jao (jaa g7 (jab _ _)) hgrow (fun g hg'=>(World.ownsRow.lt HO7.out g hg').1);clear hown' hgrow);go_wp2;go_roundg (0)
           case measure=>simp
           case rel=>exact ⟨acc++[R],[],false,_,rfl,rfl,rfl,by simp,by simp,(by have h:=HO8.out;rw [List.length_map] at h;exact h),by simp [HA.out,HT.out],by rw [HPC.out];simp,g8⟩
end Go.Proofs.YtanpkdkenifmbaaGreatDoor
namespace Go.Proofs.YtanpkdkenifmbaaGreatDoor
open Go.RowKit
structure Ra where
 name:ByteArray
 kind:Int
 must:Bool
def je4 (r:Ra):List Value:=[.string r.name,.int .i64 r.kind,.bool r.must]
theorem jer (r:Ra):(je4 r).length=3:=rfl
abbrev jkk (w:World) (base:Nat) (v:Value) (xs:List Ra):Prop:=ja6 144 3 je4 w base v xs
theorem jrR:(Tryz.prog.info? 144).map (fun i=>(i.zero,i.size,i.bytes))=some (some (.agg #[.string ⟨#[]⟩,.int .i64 0,.bool false]),3,32):=by kernel_rfl
theorem jrS:(Tryz.prog.info? 144).map (·.size)=some 3:=by kernel_rfl
theorem jqd {fn : Func} {p : Tmp} (h : fn.results = #[.cell p 144]) (tmps : Array Value) (w : World) (B : Nat) (hp : tmps.getD p undef = .pointer (some ⟨B, 0, none⟩)) {a b c : Value}
    (hb:w.heap[B]?=some (.cells #[a,b,c] 144 (0,0))):(results fn tmps).run Tryz.prog w=.ok (.agg #[a,b,c]) w :=
     results_cell_row h tmps w B 144 #[a,b,c] (0,0) _ hp hb Tryz.underlying144 rfl (by rw [jrS];rfl)
theorem jaV (nm:ByteArray) (kd:Int) (w:World) :
    Calls Tryz.prog 111 #[.string nm,.int .i64 kd] w fun e w'=>e=.returned (.agg #[.string nm,.int .i64 kd,.bool false])∧w.grownBy w' none:=by
     go_enter Tryz.func111,Tryz.ntmps111;go_wp2;refine bodyPost_ret (jqd rfl _ _ w.heap.size rfl (heap_alloc_new w _)) rfl ?_;exact ⟨rfl,jab _ _⟩
theorem jbJ (nm:ByteArray) (kd:Int) (w:World) :
    Calls Tryz.prog 112 #[.string nm,.int .i64 kd] w fun e w'=>e=.returned (.agg #[.string nm,.int .i64 kd,.bool true])∧w.grownBy w' none:=by
     go_enter Tryz.func112,Tryz.ntmps112;go_wp2;refine bodyPost_ret (jqd rfl _ _ w.heap.size rfl (heap_alloc_new w _)) rfl ?_;exact ⟨rfl,jab _ _⟩
def jat:Ra:=⟨⟨#[116,104,101,110]⟩,3,false⟩
theorem jjE:(Tryz.prog.info? 124).map (·.size)=some 3:=by kernel_rfl
theorem jou {fn : Func} {p : Tmp} (h : fn.results = #[.cell p 124]) (tmps : Array Value) (w : World) (B : Nat) (hp : tmps.getD p undef = .pointer (some ⟨B, 0, none⟩)) {a b c : Value}
    (hb:w.heap[B]?=some (.cells #[a,b,c] 124 (0,0))):(results fn tmps).run Tryz.prog w=.ok (.agg #[a,b,c]) w :=
     results_cell_row h tmps w B 124 #[a,b,c] (0,0) _ hp hb Tryz.underlying124 rfl (by rw [jjE];rfl)
def joi (w:World) (v:Value) (xs:List Ra):Prop:=(xs=[]∧v=.slice none 0 0)∨∃ g cur,v=.slice (some ⟨g,0,none⟩) xs.length xs.length∧w.heap[g]?=some (.cells cur 144 (0,0))∧cur.toList=xs.flatMap je4∧cur.size=xs.length*3
theorem joi.owns {w:World} {v:Value} {xs:List Ra} (h:joi w v xs) (hl:xs.length≤20):jkk w 0 v xs:=by
 rcases h with ⟨rfl,rfl⟩ | ⟨g,cur,rfl,hb,hc,hs⟩
 ·exact ja6.nil _ _ _ _ _
 ·refine ⟨jjx jer xs,Or.inr ⟨g,xs.length,cur,rfl,Nat.zero_le _,hb,Nat.le_refl _,by simp only [maxLen];omega,hs,?_⟩⟩;rw [hc];exact List.take_of_length_le (by rw [jjx jer];exact Nat.le_refl _)
theorem joi.form {w:World} {v:Value} {xs:List Ra} (h:joi w v xs):∃ a,v=.slice a xs.length xs.length:=by
 rcases h with ⟨rfl,rfl⟩ | ⟨g,cur,rfl,_⟩
 ·exact ⟨none,rfl⟩
 ·exact ⟨_,rfl⟩
theorem joi.alloc {w:World} {v:Value} {xs:List Ra} (h:joi w v xs) {w':World} (hg:w.grownBy w' none):joi w' v xs:=by
 rcases h with h | ⟨g,cur,e,hb,r⟩
 ·exact Or.inl h
 ·exact Or.inr ⟨g,cur,e,jag hb hg,r⟩
def Taken (lo hi:Int) (xs:List Ra) (v:Value) (w w':World) (e:Ending):Prop :=
 ∃ a n c,e=.returned (.agg #[.int .i64 lo,.int .i64 hi,.slice a n c])∧jkk w' 0 (.slice a n c) xs∧∀ k,(Value.slice a n c).ownBlock=some k→v.ownBlock=some k∨w.heap.size≤k
theorem jcU {a b c:World} {row:Option Nat} {B:Nat} (h:a.grownBy b row) (k:b.grownBy c (some B)) (hB:a.heap.size≤B):a.grownBy c row :=
 ⟨k.os.trans h.os,k.tape.trans h.tape,k.output.trans h.output,Nat.le_trans h.size k.size,fun i hi hn=>(k.block i (Nat.lt_of_lt_of_le hi h.size) (fun e=>by cases e;omega)).trans (h.block i hi hn)⟩
theorem jfP {a b c:World} {row:Option Nat} (h:a.grownBy b none) (k:b.grownBy c row):a.grownBy c row :=
 ⟨k.os.trans h.os,k.tape.trans h.tape,k.output.trans h.output,Nat.le_trans h.size k.size,fun i hi hn=>(k.block i (Nat.lt_of_lt_of_le hi h.size) hn).trans (h.block i hi (by simp))⟩
theorem jiD {w3:World} {B:Nat} {z0 z1 z2:Value} (a b c:Value) (hb:w3.heap[B]?=some (.cells #[z0,z1,z2] 124 (0,0))) :
    (((w3.setCell ⟨B,0,none⟩ a).setCell ⟨B,1,none⟩ b).setCell ⟨B,2,none⟩ c).heap[B]?=some (.cells #[a,b,c] 124 (0,0)) ∧
    w3.grownBy (((w3.setCell ⟨B,0,none⟩ a).setCell ⟨B,1,none⟩ b).setCell ⟨B,2,none⟩ c) (some B):=by
     have h1:=heap_setCell_same w3 B 0 _ _ a hb;have h2:=heap_setCell_same _ B 1 _ _ b h1;have h3:=heap_setCell_same _ B 2 _ _ c h2
     have g:∀ (x:World) (j:Nat) (v:Value),x.grownBy (x.setCell ⟨B,j,none⟩ v) (some B):=fun x j v =>
      ⟨rfl,rfl,rfl,by simp [World.setCell],fun k _ hk=>Below.heap_setCell _ _ _ _ (fun e=>hk (by rw [e]))⟩
     exact ⟨by simpa using h3,jaN (jaN (g w3 0 a) (g _ 1 b)) (g _ 2 c)⟩
theorem jam {w:World} {B:Nat} {a b c:Value} (hb:w.heap[B]?=some (.cells #[a,b,c] 124 (0,0))) :
    w.cell? ⟨B,0,none⟩=some a∧w.cell? ⟨B,1,none⟩=some b∧w.cell? ⟨B,2,none⟩=some c∧w.frozen? ⟨B,0,none⟩=false∧w.frozen? ⟨B,1,none⟩=false∧w.frozen? ⟨B,2,none⟩=false :=
     ⟨(cell_of_row _ _ 0 _ _ (0,0) hb).trans rfl,(cell_of_row _ _ 1 _ _ (0,0) hb).trans rfl,(cell_of_row _ _ 2 _ _ (0,0) hb).trans rfl,frozen_of_row w B 0 _ _ hb,frozen_of_row w B 1 _ _ hb,frozen_of_row w B 2 _ _ hb⟩
theorem joi.lt {w:World} {v:Value} {xs:List Ra} (h:joi w v xs):∀ k,v.ownBlock=some k→k<w.heap.size:=by
 intro k hk
 rcases h with ⟨_,rfl⟩ | ⟨g,cur,rfl,hb,_⟩
 ·cases hk
 ·cases hk
  exact (Array.getElem?_eq_some_iff.1 hb).1
theorem jau (lo hi:Int) (v:Value) (xs:List Ra) (w:World) (hv:joi w v xs) (hl:xs.length≤20) :
    Calls Tryz.prog 110 #[.int .i64 lo,.int .i64 hi,v] w fun e w'=>Taken lo hi (xs++[jat]) v w w' e∧w.grownBy w' v.ownBlock:=by
     obtain ⟨i0,hi0,hz0,hz1,hz2⟩:=info_parts jrR;have HV:=jac hv;obtain ⟨va,rfl⟩:=hv.form;obtain ⟨w0,hw0⟩ : ∃ w0,w0=w.alloc (.cells #[.int .i64 0,.int .i64 0,.slice none 0 0] 124):=⟨_,rfl⟩
     have g0:w.grownBy w0 none:=by rw [hw0];exact jab _ _
     have b0:=heap_alloc_new w (.cells #[.int .i64 0,.int .i64 0,.slice none 0 0] 124);rw [← hw0] at b0;have B0:=jac b0;clear hv b0;go_enter Tryz.func110,Tryz.ntmps110;go_wp2_with fail;rw [← hw0];clear hw0;refine (jaV _ _ _).mono ?_;rintro e w1 ⟨rfl,hg1⟩;have g1:=jaa g0 hg1;have L1:=jac ((HV.out.alloc g1).alloc (jab w1 (.cells #[.string ⟨#[116,104,101,110]⟩,.int .i64 3,.bool false] 144)));have B1:=jac (jag (jag B0.out hg1) (jab w1 (.cells #[.string ⟨#[116,104,101,110]⟩,.int .i64 3,.bool false] 144)));have LT:=jac HV.out.lt;go_wp2_with (at_builtin;refine wpList_append_lies _ rfl (.tmp 9) (.tmp 11) 122 rfl 0 144 i0 (.agg #[.string ⟨#[]⟩,.int .i64 0,.bool false]) 3 32 Tryz.underlying122 hi0 hz0 hz1 hz2 rfl (by decide) _ _ _ rfl (by exact L1.out.owns hl) ⟨w1.heap.size,0,none⟩ 1 1 (je4 jat) rfl rfl (by exact World.news_of_block (heap_alloc_new w1 _)) (by simp [je4,Value.oneCell']) (by omega) (by simp only [maxLen];omega) (by omega) (Nat.zero_le _) (w1.heap.size+1) (by simp) ?_;intro g nc w6 hown' hgrow hat _;have hne:g≠w.heap.size:=(by rcases hat with h | h;(have:=LT.out _ h;omega);(have:=g1.size;omega));have HAT:=jac hat;have HNE:=jac hne;clear hne hat;have B6:=jac ((hgrow.block w.heap.size (Array.getElem?_eq_some_iff.1 B1.out).1 (fun e=>by have:=LT.out _ e.symm;omega)).trans B1.out);obtain ⟨r0,r1,r2,f0,f1,f2⟩:=jam B6.out;have HO6:=jac hown';have HG6:=jac hgrow;clear hown' hgrow);obtain ⟨hX,gX⟩:=jiD (.int .i64 lo) (.int .i64 hi) (.slice (some ⟨g,0,none⟩) (xs.length+1) nc) B6.out;have HX:=jac hX;have GX:=jac gX;clear hX gX;go_wp2;refine bodyPost_ret (jou rfl _ _ w.heap.size rfl HX.out) rfl ?_;refine ⟨⟨_,_,nc,rfl,?_,fun k hk=>?_⟩,?_⟩
     ·have h:=World.ownsRow.kept HO6.out GX.out (Or.inr (fun e=>HNE.out (by cases e;rfl)));unfold jkk ja6;rw [List.length_append,List.flatMap_append];simpa using h
     ·cases hk
      rcases HAT.out with h | h
      ·exact Or.inl h
      ·exact Or.inr (by have:=g1.size;show w.heap.size≤g;omega)
     ·exact jcU (jfP (jaa g1 (jab _ _)) HG6.out) GX.out (Nat.le_refl _)
end Go.Proofs.YtanpkdkenifmbaaGreatDoor
namespace Go.Proofs.YtanpkdkenifmbaaGreatDoor
open Go.RowKit
def ja8 (r:Option (Int×Int×List Ra)) (w':World) (e:Ending):Prop:=match r with
 | none=>e=.returned (.tuple #[.agg #[.int .i64 0,.int .i64 0,.slice none 0 0],.bool false])
 | some (lo,hi,rs)=>∃ a n c,e=.returned (.tuple #[.agg #[.int .i64 lo,.int .i64 hi,.slice a n c],.bool true])∧jkk w' 0 (.slice a n c) rs
theorem jas {fn : Func} {p u : Tmp} (h : fn.results = #[.cell p 124, .tmp u]) (tmps : Array Value) (w : World) (B : Nat) (hp : tmps.getD p undef = .pointer (some ⟨B, 0, none⟩)) {a b c : Value}
    (hb:w.heap[B]?=some (.cells #[a,b,c] 124 (0,0))):(results fn tmps).run Tryz.prog w=.ok (.tuple #[.agg #[a,b,c],tmps.getD u undef]) w:=by
     have hl:=run_loadVar_row (P:=Tryz.prog) w B _ 124 #[a,b,c] (0,0) _ hb Tryz.underlying124 rfl (by rw [jjE];rfl);rw [results_cell_tmp h,hp];simp [asAddr,hl,Result.andThen]
theorem jax {w w0 w1 wx w6 : World} {row : Option Nat} {lo hi : Int} {a : Option Addr} {n c : Nat} {rs : List Ra} (hg0 : w.grownBy w0 none) (hb : w0.heap[w.heap.size]? = some (.cells #[.int .i64 0, .int .i64 0, .slice none 0 0] 124 (0, 0)))
    (hg1:w0.grownBy w1 none) (hgx:w1.grownBy wx none) (hg6:wx.grownBy w6 row) (hrow:∀ g,row=some g→w1.heap.size≤g) (ho:jkk w6 0 (.slice a n c) rs) (hne:(Value.slice a n c).ownBlock≠some w.heap.size) :
    w6.heap[w.heap.size]?=some (.cells #[.int .i64 0,.int .i64 0,.slice none 0 0] 124 (0,0)) ∧
    (((w6.setCell ⟨w.heap.size,0,none⟩ (.int .i64 lo)).setCell ⟨w.heap.size,1,none⟩ (.int .i64 hi)).setCell ⟨w.heap.size,2,none⟩ (.slice a n c)).heap[w.heap.size]?=some (.cells #[.int .i64 lo,.int .i64 hi,.slice a n c] 124 (0,0)) ∧
    jkk (((w6.setCell ⟨w.heap.size,0,none⟩ (.int .i64 lo)).setCell ⟨w.heap.size,1,none⟩ (.int .i64 hi)).setCell ⟨w.heap.size,2,none⟩ (.slice a n c)) 0 (.slice a n c) rs ∧
    w.grownBy (((w6.setCell ⟨w.heap.size,0,none⟩ (.int .i64 lo)).setCell ⟨w.heap.size,1,none⟩ (.int .i64 hi)).setCell ⟨w.heap.size,2,none⟩ (.slice a n c)) none:=by
     have hlt:=(Array.getElem?_eq_some_iff.1 hb).1;have b1:=jag (jag hb hg1) hgx;have s1:=hg1.size;have b6:w6.heap[w.heap.size]?=some (.cells #[.int .i64 0,.int .i64 0,.slice none 0 0] 124 (0,0)):=(hg6.block _ (Array.getElem?_eq_some_iff.1 b1).1 (fun e=>by have:=hrow _ e.symm;omega)).trans b1;obtain ⟨hX,gX⟩:=jiD (.int .i64 lo) (.int .i64 hi) (.slice a n c) b6;refine ⟨b6,hX,World.ownsRow.kept ho gX (Or.inr hne),?_⟩;have g6:w.grownBy w6 none:=jao (jaa (jaa hg0 hg1) hgx) hg6 (fun g e=>by have:=hrow g e;have:=(jaa hg0 hg1).size;omega);exact jcU g6 gX (Nat.le_refl _)
theorem jlI (w:World) (hl:Laid w) :
    Calls Tryz.prog 79 #[.string ⟨#[82,101,108,117]⟩] w fun e w'=>ja8 (some (1,1,[jat])) w' e∧w.grownBy w' none:=by
     have e1:jaw ⟨#[82,101,108,117]⟩=true:=by simp only [jaw,jaj];rfl
     obtain ⟨w0,hw0⟩ : ∃ w0,w0=w.alloc (.cells #[.int .i64 0,.int .i64 0,.slice none 0 0] 124):=⟨_,rfl⟩
     have g0:w.grownBy w0 none:=by rw [hw0];exact jab _ _
     have b0:=heap_alloc_new w (.cells #[.int .i64 0,.int .i64 0,.slice none 0 0] 124);rw [← hw0] at b0;have B0:=jac b0;have OO:=jac (jar ⟨#[82,101,108,117]⟩ w0 (hl.more g0));rw [e1] at OO;clear hl b0 e1;go_enter Tryz.func79,Tryz.ntmps79;go_wp2_with fail;rw [← hw0];clear hw0;refine OO.out.mono ?_;rintro e v0 ⟨rfl,h0⟩;go_wp2_with fail;refine (jau _ _ _ [] _ (Or.inl ⟨rfl,rfl⟩) (by decide)).mono ?_;rintro e w6 ⟨⟨a,n,c,rfl,ho,hat⟩,hg6⟩;have hlt:=(Array.getElem?_eq_some_iff.1 B0.out).1;have hsk:=h0.size
     have hne:(Value.slice a n c).ownBlock≠some w.heap.size:=fun hh=>by
      rcases hat _ hh with h | h
      ·cases h
      ·omega
     obtain ⟨b6,hX,hO,gX⟩:=jax (lo:=1) (hi:=1) g0 B0.out h0 (jae _) hg6 (fun g e=>by cases e) ho hne;obtain ⟨r0,r1,r2,f0,f1,f2⟩:=jam b6;have HX:=jac hX;have HO:=jac hO;have GX:=jac gX;clear hX hO gX b6 ho hg6 hne hat hlt hsk;go_wp2;refine bodyPost_ret (jas rfl _ _ w.heap.size rfl HX.out) rfl ?_;exact ⟨⟨_,_,_,rfl,HO.out⟩,GX.out⟩
theorem jov (w:World) (hl:Laid w) :
    Calls Tryz.prog 79 #[.string ⟨#[65,100,100]⟩] w fun e w'=>ja8 (some (2,2,[jat])) w' e∧w.grownBy w' none:=by
     have e1:jaw ⟨#[65,100,100]⟩=false:=by simp only [jaw,jaj];rfl
     obtain ⟨w0,hw0⟩ : ∃ w0,w0=w.alloc (.cells #[.int .i64 0,.int .i64 0,.slice none 0 0] 124):=⟨_,rfl⟩
     have g0:w.grownBy w0 none:=by rw [hw0];exact jab _ _
     have b0:=heap_alloc_new w (.cells #[.int .i64 0,.int .i64 0,.slice none 0 0] 124);rw [← hw0] at b0;have B0:=jac b0;have OO:=jac (jar ⟨#[65,100,100]⟩ w0 (hl.more g0));rw [e1] at OO;clear hl b0 e1;go_enter Tryz.func79,Tryz.ntmps79;go_wp2_with fail;rw [← hw0];clear hw0;refine OO.out.mono ?_;rintro e v0 ⟨rfl,h0⟩;go_wp2_with fail;refine (jau _ _ _ [] _ (Or.inl ⟨rfl,rfl⟩) (by decide)).mono ?_;rintro e w6 ⟨⟨a,n,c,rfl,ho,hat⟩,hg6⟩;have hlt:=(Array.getElem?_eq_some_iff.1 B0.out).1;have hsk:=h0.size
     have hne:(Value.slice a n c).ownBlock≠some w.heap.size:=fun hh=>by
      rcases hat _ hh with h | h
      ·cases h
      ·omega
     obtain ⟨b6,hX,hO,gX⟩:=jax (lo:=2) (hi:=2) g0 B0.out h0 (jae _) hg6 (fun g e=>by cases e) ho hne;obtain ⟨r0,r1,r2,f0,f1,f2⟩:=jam b6;have HX:=jac hX;have HO:=jac hO;have GX:=jac gX;clear hX hO gX b6 ho hg6 hne hat hlt hsk;go_wp2;refine bodyPost_ret (jas rfl _ _ w.heap.size rfl HX.out) rfl ?_;exact ⟨⟨_,_,_,rfl,HO.out⟩,GX.out⟩
theorem jlJ (w:World) (hl:Laid w) :
    Calls Tryz.prog 79 #[.string ⟨#[67,97,115,116]⟩] w fun e w'=>ja8 (some (1,1,[⟨⟨#[116,111]⟩,2,true⟩,jat])) w' e∧w.grownBy w' none:=by
     have e1:jaw ⟨#[67,97,115,116]⟩=false:=by simp only [jaw,jaj];rfl
     obtain ⟨w0,hw0⟩ : ∃ w0,w0=w.alloc (.cells #[.int .i64 0,.int .i64 0,.slice none 0 0] 124):=⟨_,rfl⟩
     have g0:w.grownBy w0 none:=by rw [hw0];exact jab _ _
     have b0:=heap_alloc_new w (.cells #[.int .i64 0,.int .i64 0,.slice none 0 0] 124);rw [← hw0] at b0;have B0:=jac b0;have OO:=jac (jar ⟨#[67,97,115,116]⟩ w0 (hl.more g0));rw [e1] at OO;clear hl b0 e1;go_enter Tryz.func79,Tryz.ntmps79;go_wp2_with fail;rw [← hw0];clear hw0;refine OO.out.mono ?_;rintro e v0 ⟨rfl,h0⟩;go_wp2_with fail;refine (jbJ _ _ _).mono ?_;rintro e v1 ⟨rfl,h1'⟩;have h1:=jaa h0 h1';go_wp2_with fail;refine (jau _ _ _ [⟨⟨#[116,111]⟩,2,true⟩] _ (Or.inr ⟨_,_,rfl,heap_alloc_new _ _,rfl,rfl⟩) (by decide)).mono ?_;rintro e w6 ⟨⟨a,n,c,rfl,ho,hat⟩,hg6⟩;have hlt:=(Array.getElem?_eq_some_iff.1 B0.out).1;have hsk:=h1.size
     have hne:(Value.slice a n c).ownBlock≠some w.heap.size:=fun hh=>by
      rcases hat _ hh with h | h
      ·have:v1.heap.size=w.heap.size:=by simpa [Value.ownBlock] using h
       omega
      ·have:v1.heap.size+1≤w.heap.size:=by simpa using h
       omega
     obtain ⟨b6,hX,hO,gX⟩:=jax (lo:=1) (hi:=1) g0 B0.out h1 (jab v1 (.cells #[.string ⟨#[116,111]⟩,.int .i64 2,.bool true] 144)) hg6 (fun g e=>by cases e;exact Nat.le_refl _) ho hne;obtain ⟨r0,r1,r2,f0,f1,f2⟩:=jam b6;have HX:=jac hX;have HO:=jac hO;have GX:=jac gX;clear hX hO gX b6 ho hg6 hne hat hlt hsk;go_wp2;refine bodyPost_ret (jas rfl _ _ w.heap.size rfl HX.out) rfl ?_;exact ⟨⟨_,_,_,rfl,HO.out⟩,GX.out⟩
end Go.Proofs.YtanpkdkenifmbaaGreatDoor
namespace Go.Proofs.YtanpkdkenifmbaaGreatDoor
open Go.RowKit
abbrev jeC (w:World) (v:Value) (xs:List ByteArray):Prop:=IsL 16 1 jfO w v xs
def isS (x:ByteArray) (y:ByteArray):Bool:=x.toList==y.toList
theorem jrT {w:World} {b off len cap:Nat} {xs:List ByteArray} (h:IsL 16 1 jfO w (.slice (some ⟨b,off,none⟩) len cap) xs) (k:Nat) (hk:k<xs.length):w.cell? ⟨b,off+k,none⟩=some (.string xs[k]):=by
 have:=h.at k hk 0 (by omega);simpa using this
theorem jlK (v:Value) (xs:List ByteArray) (x:ByteArray) (w:World) (hv:jeC w v xs) :
    Calls Tryz.prog 113 #[v,.string x] w fun e w'=>e=.returned (.int .i64 (jck (isS x) xs 0))∧w.grownBy w' none:=by
     have HV:=jac hv;obtain ⟨ao,cap,rfl,h1,h2,h3⟩:=hv.form;clear hv;go_enter Tryz.func113,Tryz.ntmps113;go_wp2_with fail;go_loopw [8] (fun i wr=>w.grownBy wr none∧∃ k:Nat,k≤xs.length∧i=.int .i64 k∧jck (isS x) xs 0=jck (isS x) (xs.drop k) k) (fun i _=>xs.length - (intOf i).toNat)
     case atStart=>exact ⟨jae _,0,Nat.zero_le _,rfl,rfl⟩
     case round =>
      obtain ⟨hg,k,hk,rfl,hpl⟩:=hrel;have HPL:=jac hpl;clear hpl
      by_cases hlt:k<xs.length
      ·have HVk:=HV.out.more hg;obtain ⟨b,off,rfl⟩:=HVk.addr hlt;have a0:=jrT HVk k hlt;clear HVk
       by_cases ht:(x.toList==xs[k].toList)=true
       ·have HT:=jac ht;go_wp2;go_ret;exact ⟨by rw [HPL.out,jeR hlt HT.out];rfl,hg⟩
       ·have ht':(x.toList==xs[k].toList)=false:=by simpa using ht
        have HT:=jac ht';clear ht;go_wp2;go_roundw
        case rel=>exact ⟨hg,k+1,by omega,by go_num,by rw [HPL.out,jdy hlt HT.out]⟩
        case measure=>simp [intOf];omega
      ·obtain rfl:k=xs.length:=by omega
       go_wp2;go_ret;exact ⟨by rw [HPL.out,List.drop_of_length_le (Nat.le_refl _)];rfl,hg⟩
theorem jjF {α:Type} (P:α→Bool) (xs:List α):decide (0≤jck P xs 0)=xs.any P:=by
 rcases jcT P xs 0 with ⟨e1,e2⟩ | ⟨j,hj,e1,e2⟩
 ·rw [e1]
  have h:xs.any P=false:=by
   rw [Bool.eq_false_iff];intro h;obtain ⟨x,hx,hp⟩:=List.any_eq_true.1 h;exact absurd hp (by simpa using List.find?_eq_none.1 e2 x hx)
  rw [h]
  rfl
 ·rw [e1];have h:xs.any P=true:=List.any_eq_true.2 ⟨xs[j],List.getElem_mem hj,List.find?_some e2⟩;rw [h];simp
theorem jhu (v:Value) (xs:List ByteArray) (x:ByteArray) (w:World) (hv:jeC w v xs) :
    Calls Tryz.prog 80 #[v,.string x] w fun e w'=>e=.returned (.bool (xs.any (isS x)))∧w.grownBy w' none:=by
     have IX:=jac (jlK v xs x w hv);have HP:=jac (jjF (isS x) xs);clear hv;go_enter Tryz.func80,Tryz.ntmps80;go_wp2_with fail;refine IX.out.mono ?_;rintro e w1 ⟨rfl,hg⟩;go_wp2;go_ret;exact ⟨by rw [← HP.out];rfl,hg⟩
def jhv (nm:ByteArray) (r:Ra):Bool:=r.name.toList==nm.toList
def jdL (nm:ByteArray) (b:Atr):Bool:=b.name.toList==nm.toList
theorem jcV {w:World} {B:Nat} {r:Ra} (hb:w.heap[B]?=some (.cells #[.string r.name,.int .i64 r.kind,.bool r.must] 144 (0,0))) :
    w.cell? ⟨B,0,none⟩=some (.string r.name)∧w.cell? ⟨B,1,none⟩=some (.int .i64 r.kind)∧w.cell? ⟨B,2,none⟩=some (.bool r.must) :=
     ⟨(cell_of_row _ _ 0 _ _ (0,0) hb).trans rfl,(cell_of_row _ _ 1 _ _ (0,0) hb).trans rfl,(cell_of_row _ _ 2 _ _ (0,0) hb).trans rfl⟩
theorem jlL (r:Ra) (p:Nat) (nm:ByteArray) (w:World) (hp:w.cell? ⟨p,0,none⟩=some (.string nm)) :
    Calls Tryz.prog 114 #[.agg #[.string r.name,.int .i64 r.kind,.bool r.must],.pointer (some ⟨p,0,none⟩)] w fun e w'=>e=.returned (.bool (jhv nm r))∧w.grownBy w' none:=by
     have g0:=jab w (.cells #[.string r.name,.int .i64 r.kind,.bool r.must] 144);obtain ⟨c0,-⟩:=jcV (heap_alloc_new w (.cells #[.string r.name,.int .i64 r.kind,.bool r.must] 144))
     have cp:(w.alloc (.cells #[.string r.name,.int .i64 r.kind,.bool r.must] 144)).cell? ⟨p,0,none⟩=some (.string nm):=by
      rw [← hp];exact World.cell?_of_block (g0.block p (World.block_lt_of_cell? w _ hp) (by simp))
     have G0:=jac g0;clear hp g0;go_enter Tryz.func114,Tryz.ntmps114;go_wp2;go_ret;exact ⟨rfl,G0.out⟩
theorem jlM (a:Atr) (p:Nat) (nm:ByteArray) (w:World) (hp:w.cell? ⟨p,0,none⟩=some (.string nm)) :
    Calls Tryz.prog 116 #[jlu a,.pointer (some ⟨p,0,none⟩)] w fun e w'=>e=.returned (.bool (jdL nm a))∧w.grownBy w' none:=by
     have g0:=jab w (.cells #[.string a.name,.int .i64 a.kind,.int .i64 a.f,.int .i64 a.i,.string a.s,.int .i64 a.ty,.slice a.dv.a a.dv.n a.dv.c,.slice a.tv.a a.tv.n a.tv.c,.slice a.iv.a a.iv.n a.iv.c] 68);obtain ⟨c0,-⟩:=ja2 (heap_alloc_new w (.cells #[.string a.name,.int .i64 a.kind,.int .i64 a.f,.int .i64 a.i,.string a.s,.int .i64 a.ty,.slice a.dv.a a.dv.n a.dv.c,.slice a.tv.a a.tv.n a.tv.c,.slice a.iv.a a.iv.n a.iv.c] 68))
     have cp:(w.alloc (.cells #[.string a.name,.int .i64 a.kind,.int .i64 a.f,.int .i64 a.i,.string a.s,.int .i64 a.ty,.slice a.dv.a a.dv.n a.dv.c,.slice a.tv.a a.tv.n a.tv.c,.slice a.iv.a a.iv.n a.iv.c] 68)).cell? ⟨p,0,none⟩=some (.string nm):=by
      rw [← hp];exact World.cell?_of_block (g0.block p (World.block_lt_of_cell? w _ hp) (by simp))
     have G0:=jac g0;clear hp g0;unfold jlu;go_enter Tryz.func116,Tryz.ntmps116;go_wp2;go_ret;exact ⟨rfl,G0.out⟩
theorem je5 {w w':World} {a:Addr} {x:Value} (h:w.cell? a=some x) (hg:w.grownBy w' none):w'.cell? a=some x :=
 (World.cell?_of_block (hg.block a.block (World.block_lt_of_cell? w _ h) (by simp))).trans h
abbrev jqB (w:World) (v:Value) (xs:List Ra):Prop:=IsL 32 3 je4 w v xs
theorem IsL.ra {w:World} {b off len cap:Nat} {xs:List Ra} (h:IsL 32 3 je4 w (.slice (some ⟨b,off,none⟩) len cap) xs) (k:Nat) (hk:k<xs.length) :
    w.cell? ⟨b,off+k*3,none⟩=some (.string xs[k].name)∧w.cell? ⟨b,off+k*3+1,none⟩=some (.int .i64 xs[k].kind)∧w.cell? ⟨b,off+k*3+2,none⟩=some (.bool xs[k].must):=by
     have f:=fun j hj=>h.at k hk j hj;exact ⟨f 0 (by omega),f 1 (by omega),f 2 (by omega)⟩
theorem jow (v:Value) (xs:List Ra) (p:Nat) (nm:ByteArray) (w:World) (hv:jqB w v xs) (hp:w.cell? ⟨p,0,none⟩=some (.string nm)) :
    Calls Tryz.prog 115 #[v,.func (.func 114) #[] #[.pointer (some ⟨p,0,none⟩)]] w fun e w'=>e=.returned (.int .i64 (jck (jhv nm) xs 0))∧w.grownBy w' none:=by
     have HV:=jac hv;obtain ⟨ao,cap,rfl,h1,h2,h3⟩:=hv.form;have HP:=jac hp;clear hv hp;go_enter Tryz.func115,Tryz.ntmps115;go_wp2_with fail;go_loopw [8] (fun i wr=>w.grownBy wr none∧∃ k:Nat,k≤xs.length∧i=.int .i64 k∧jck (jhv nm) xs 0=jck (jhv nm) (xs.drop k) k) (fun i _=>xs.length - (intOf i).toNat)
     case atStart=>exact ⟨jae _,0,Nat.zero_le _,rfl,rfl⟩
     case round =>
      obtain ⟨hg,k,hk,rfl,hpl⟩:=hrel;have HPL:=jac hpl;clear hpl
      by_cases hlt:k<xs.length
      ·have HVk:=HV.out.more hg;obtain ⟨b,off,rfl⟩:=HVk.addr hlt;obtain ⟨a0,a1,a2⟩:=HVk.ra k hlt;have NA:=jac (fun (wx:World) (hx:w.grownBy wx none)=>jlL xs[k] p nm wx (je5 HP.out hx));clear HVk;go_wp2_with fail;refine (NA.out wr hg).mono ?_;rintro e w1 ⟨rfl,hg1⟩;have g1:=jaa hg hg1
       cases ht:jhv nm xs[k] with
       | true =>
        have HT:=jac ht;clear ht;go_wp2;go_ret;exact ⟨by rw [HPL.out,jeR hlt HT.out];rfl,g1⟩
       | false =>
        have HT:=jac ht;clear ht;go_wp2;go_roundw
        case rel=>exact ⟨g1,k+1,by omega,by go_num,by rw [HPL.out,jdy hlt HT.out]⟩
        case measure=>simp [intOf];omega
      ·obtain rfl:k=xs.length:=by omega
       go_wp2;go_ret;exact ⟨by rw [HPL.out,List.drop_of_length_le (Nat.le_refl _)];rfl,hg⟩
theorem jiE (v:Value) (xs:List Atr) (p:Nat) (nm:ByteArray) (w:World) (hv:jcc w v xs) (hp:w.cell? ⟨p,0,none⟩=some (.string nm)) :
    Calls Tryz.prog 77 #[v,.func (.func 116) #[] #[.pointer (some ⟨p,0,none⟩)]] w fun e w'=>e=.returned (.int .i64 (jck (jdL nm) xs 0))∧w.grownBy w' none:=by
     have HV:=jac hv;obtain ⟨ao,cap,rfl,h1,h2,h3⟩:=hv.form;have HP:=jac hp;clear hv hp;go_enter Tryz.func77,Tryz.ntmps77;go_wp2_with fail;go_loopw [8] (fun i wr=>w.grownBy wr none∧∃ k:Nat,k≤xs.length∧i=.int .i64 k∧jck (jdL nm) xs 0=jck (jdL nm) (xs.drop k) k) (fun i _=>xs.length - (intOf i).toNat)
     case atStart=>exact ⟨jae _,0,Nat.zero_le _,rfl,rfl⟩
     case round =>
      obtain ⟨hg,k,hk,rfl,hpl⟩:=hrel;have HPL:=jac hpl;clear hpl
      by_cases hlt:k<xs.length
      ·have HVk:=HV.out.more hg;obtain ⟨b,off,rfl⟩:=HVk.addr hlt;obtain ⟨a0,a1,a2,a3,a4,a5,a6,a7,a8⟩:=HVk.attr k hlt;have NA:=jac (fun (wx:World) (hx:w.grownBy wx none)=>jlM xs[k] p nm wx (je5 HP.out hx));clear HVk;go_wp2_with fail;refine (NA.out wr hg).mono ?_;rintro e w1 ⟨rfl,hg1⟩;have g1:=jaa hg hg1
       cases ht:jdL nm xs[k] with
       | true =>
        have HT:=jac ht;clear ht;go_wp2;go_ret;exact ⟨by rw [HPL.out,jeR hlt HT.out];rfl,g1⟩
       | false =>
        have HT:=jac ht;clear ht;go_wp2;go_roundw
        case rel=>exact ⟨g1,k+1,by omega,by go_num,by rw [HPL.out,jdy hlt HT.out]⟩
        case measure=>simp [intOf];omega
      ·obtain rfl:k=xs.length:=by omega
       go_wp2;go_ret;exact ⟨by rw [HPL.out,List.drop_of_length_le (Nat.le_refl _)];rfl,hg⟩
theorem jfQ (v:Value) (xs:List Atr) (p:Nat) (nm:ByteArray) (w:World) (hv:jcc w v xs) (hp:w.cell? ⟨p,0,none⟩=some (.string nm)) :
    Calls Tryz.prog 117 #[v,.func (.func 116) #[] #[.pointer (some ⟨p,0,none⟩)]] w fun e w'=>e=.returned (.bool (xs.any (jdL nm)))∧w.grownBy w' none:=by
     have IX:=jac (jiE v xs p nm w hv hp);have HP:=jac (jjF (jdL nm) xs);clear hv hp;go_enter Tryz.func117,Tryz.ntmps117;go_wp2_with fail;refine IX.out.mono ?_;rintro e w1 ⟨rfl,hg⟩;go_wp2;go_ret;exact ⟨by rw [← HP.out];rfl,hg⟩
end Go.Proofs.YtanpkdkenifmbaaGreatDoor
