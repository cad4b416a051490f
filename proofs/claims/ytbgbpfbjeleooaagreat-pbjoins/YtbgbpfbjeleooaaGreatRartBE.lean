/- A part. -/
import Derived.Test.YtbgbpfbjeleooaaGreatRartAZ
import Derived.Laws.StructEq
namespace Go.Proofs.YtbgbpfbjeleooaaGreat.Wr
open Go.RowKit
def jez (w:World) (v:Value) (xs:List Fld):Prop :=
 ∃ ao cap,v=.slice ao xs.length cap∧xs.length≤cap∧cap≤9223372036854775807∧xs.length*40≤140737488351232∧(ao=none→xs=[]∧cap=0) ∧
  (0<xs.length→∃ b off,ao=some ⟨b,off,none⟩∧∀ j,j<xs.length*4→w.cell? ⟨b,off+j,none⟩=(xs.flatMap fcells)[j]?)
theorem jez.kept {w w':World} {v:Value} {xs:List Fld} (h:jez w v xs) (hk:∀ b,b<w.heap.size→v.ownBlock=some b→w'.heap[b]?=w.heap[b]?):jez w' v xs:=by
 obtain ⟨ao,cap,rfl,h1,h2,h3,h4,h5⟩:=h;refine ⟨ao,cap,rfl,h1,h2,h3,h4,fun hl=>?_⟩;obtain ⟨b,off,rfl,hc⟩:=h5 hl;refine ⟨b,off,rfl,fun j hj=>?_⟩;have h0:w.cell? ⟨b,off+0,none⟩=some ((xs.flatMap fcells)[0]'(by cases xs <;> simp_all [fcells])):=by rw [hc 0 (by omega)];simp
 have hb:b<w.heap.size:=World.block_lt_of_cell? w _ h0;rw [← hc j hj];exact World.cell?_of_block (hk b hb rfl)
theorem jez.more {w w':World} {v:Value} {xs:List Fld} (h:jez w v xs) (hg:w.grownBy w' none):jez w' v xs:=h.kept fun b hb _=>hg.block b hb (by simp)
theorem jdC (xs:List Fld):(xs.flatMap fcells).length=xs.length*4:=by
 induction xs with
 | nil=>rfl
 | cons a l ih=>rw [List.flatMap_cons,List.length_append,ih];simp [fcells];omega
theorem jfm (xs:List Fld) (k j:Nat) (hk:k<xs.length) (hj:j<4):(xs.flatMap fcells)[k*4+j]?=(fcells xs[k])[j]?:=by
 induction xs generalizing k with
 | nil=>simp at hk
 | cons a l ih =>
  rw [List.flatMap_cons]
  cases k with
  | zero=>rw [List.getElem?_append_left (by simp [fcells];omega)];simp
  | succ k =>
   rw [List.getElem?_append_right (by simp [fcells];omega)];have e:(k+1)*4+j - (fcells a).length=k*4+j:=by simp [fcells];omega
   rw [e,ih k (by simpa using hk)];simp
theorem OwnsL.flds {w:World} {base:Nat} {v:Value} {xs:List Fld} (h:OwnsL 49 4 fcells w base v xs) (hl:xs.length*40≤140737488351232):jez w v xs:=by
 have h0:=h
 rcases h.2 with ⟨rfl,hn⟩ | ⟨g,cap,cur,rfl,_,_,hnc,hcm,_,_⟩
 ·obtain rfl:xs=[]:=List.length_eq_zero_iff.1 hn;exact ⟨none,0,rfl,by simp,by simp,by simp,fun _=>⟨rfl,rfl⟩,fun h=>by simp at h⟩
 ·refine ⟨_,cap,rfl,hnc,by simpa [maxLen] using hcm,hl,(fun h=>by cases h),fun _=>⟨g,0,rfl,fun j hj=>?_⟩⟩;rw [Nat.zero_add,World.ownsRow.cellAt h0 j (by omega)]
theorem jez.at {w:World} {b off cap:Nat} {xs:List Fld} (h:jez w (.slice (some ⟨b,off,none⟩) xs.length cap) xs) (k:Nat) (hk:k<xs.length) :
    w.cell? ⟨b,off+k*4,none⟩=some (.int .i64 xs[k].num)∧w.cell? ⟨b,off+k*4+1,none⟩=some (.int .i64 xs[k].kind)∧w.cell? ⟨b,off+k*4+2,none⟩=some (.int .u64 xs[k].u)∧w.cell? ⟨b,off+k*4+3,none⟩=some (.string xs[k].b):=by
     obtain ⟨ao,cap',e,_,_,_,_,h5⟩:=h;obtain ⟨b',off',e',hc⟩:=h5 (by omega);subst e';simp only [Value.slice.injEq,Option.some.injEq,Addr.mk.injEq] at e;obtain ⟨⟨rfl,rfl,-⟩,-,-⟩:=e;have f:∀ j,j<4→w.cell? ⟨b,off+(k*4+j),none⟩=(fcells xs[k])[j]?:=fun j hj=>by rw [hc _ (by omega),jfm xs k j hk hj]
     exact ⟨f 0 (by omega),f 1 (by omega),f 2 (by omega),f 3 (by omega)⟩
end Go.Proofs.YtbgbpfbjeleooaaGreat.Wr
