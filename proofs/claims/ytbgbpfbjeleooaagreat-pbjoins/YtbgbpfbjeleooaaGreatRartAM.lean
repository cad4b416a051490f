/- A part. -/
import Derived.Test.YtbgbpfbjeleooaaGreatMRart
import Derived.Test.YtbgbpfbjeleooaaGreatRartAL
import Derived.Defers
import Derived.Recover
namespace Go.Proofs.YtbgbpfbjeleooaaGreat.Wr
open Go.RowKit
theorem jkn {w:World} {B:Nat} {a:Value} {t:TypeId} (hb:w.heap[B]?=some (.cells #[a] t (0,0))):w.cell? ⟨B,0,none⟩=some a∧w.frozen? ⟨B,0,none⟩=false :=
 ⟨(cell_of_row _ _ 0 _ _ (0,0) hb).trans rfl,frozen_of_row w B 0 _ _ hb⟩
theorem box2 {w:World} {B:Nat} {a b:Value} {t:TypeId} (hb:w.heap[B]?=some (.cells #[a,b] t (0,0))):w.cell? ⟨B,0,none⟩=some a∧w.cell? ⟨B,1,none⟩=some b∧w.frozen? ⟨B,0,none⟩=false∧w.frozen? ⟨B,1,none⟩=false :=
 ⟨(cell_of_row _ _ 0 _ _ (0,0) hb).trans rfl,(cell_of_row _ _ 1 _ _ (0,0) hb).trans rfl,frozen_of_row w B 0 _ _ hb,frozen_of_row w B 1 _ _ hb⟩
theorem jfr (w:World) (o:Obj) (k:Nat) (h:k<w.heap.size):(w.alloc o).heap[k]?=w.heap[k]?:=(jab w o).block k h (by simp)
theorem jc0 (w:World) (o:Obj) (k:Nat) (h:k=w.heap.size):(w.alloc o).heap[k]?=some o:=by subst h;exact heap_alloc_new w o
def tkE (s:ByteArray) (p:Nat):Int:=if (tk s p).isSome then 0 else 3
def TV (s:ByteArray) (p:Int):Nat×Nat×Int:=if p<0∨(s.size:Int)<p then (0,0,1) else (tkU s p.toNat,tkN s p.toNat,tkE s p.toNat)
end Go.Proofs.YtbgbpfbjeleooaaGreat.Wr
