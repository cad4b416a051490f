/- A part. -/
import Derived.Test.YteigfipgmghgmaaGreatDoorVartAB
import Derived.Test.YteigfipgmghgmaaGreatDoorVartAH
set_option maxHeartbeats 1600000
set_option maxRecDepth 100000
namespace Go.Proofs.YteigfipgmghgmaaGreatDoor
open Go.RowKit
def pbE (ty:Int) (ds ts:List Int):Int:=if chk ty 0=false then 5 else if ja2 ds≠0 then ja2 ds else if (ts.length:Int)≠cnt ds then 4 else if ts.all (chk ty) then 0 else 4
theorem jlH (t:Int) (w:World):Calls Tryz.prog 43 #[.int .i64 t] w fun e w'=>e=.returned (.bool (chk t 0))∧w'=w:=by
 go_enter Tryz.func43,Tryz.ntmps43;go_wp2_with fail;refine (jfF t 0 w).mono ?_;rintro e w' ⟨rfl,rfl⟩;go_wp2;go_ret;exact ⟨rfl,rfl⟩
theorem jae {w w':World} {a:Addr} {x:Value} (h:w.cell? a=some x) (hg:w.grownBy w' none):w'.cell? a=some x :=
 (World.cell?_of_block (hg.block a.block (World.block_lt_of_cell? w _ h) (by simp))).trans h
theorem ja3 {w:World} {B:Nat} {a0 a1 a2:Value} {t:TypeId} (hb:w.heap[B]?=some (.cells #[a0,a1,a2] t (0,0))) :
    w.cell? ⟨B,0,none⟩=some a0∧w.cell? ⟨B,1,none⟩=some a1∧w.cell? ⟨B,2,none⟩=some a2 :=
     ⟨(cell_of_row _ _ 0 _ _ (0,0) hb).trans rfl,(cell_of_row _ _ 1 _ _ (0,0) hb).trans rfl,(cell_of_row _ _ 2 _ _ (0,0) hb).trans rfl⟩
theorem jqc {ts:List Int} {P:Int→Bool} {k:Nat} (hk:k<ts.length) (h:(ts.take k).all P=true) (hp:P (ts.getD k 0)=true):(ts.take (k+1)).all P=true:=by
 rw [jcE ts k hk,List.all_append,h,List.all_cons,hp]
 rfl
theorem jsF {ts:List Int} {P:Int→Bool} {k:Nat} (hk:k<ts.length) (hp:P (ts.getD k 0)=false):ts.all P=false:=by
 rw [List.all_eq_false];exact ⟨ts.getD k 0,by simp [List.getD,hk],by rw [hp];decide⟩
theorem jfG (ty:Int) (dv tv:Value) (ds ts:List Int) (w:World) (hd:IsInts w dv ds) (ht:IsInts w tv ts) :
    Calls Tryz.prog 26 #[.agg #[.int .i64 ty,dv,tv]] w fun e w'=>e=.returned (.int .i64 (pbE ty ds ts))∧w.grownBy w' none:=by
     have HD:=jac hd;have HT:=jac ht;obtain ⟨da,dc,rfl,-⟩:=hd;obtain ⟨ta,tc,rfl,t1,t2,t3,-,t5,-⟩:=ht;have T5:=jac t5;clear t5;obtain ⟨w0,hw0⟩ : ∃ w0,w0=w.alloc (.cells #[.int .i64 ty,.slice da ds.length dc,.slice ta ts.length tc] 32):=⟨_,rfl⟩
     have g0:w.grownBy w0 none:=by rw [hw0];exact jab _ _
     have b0:=heap_alloc_new w (.cells #[.int .i64 ty,.slice da ds.length dc,.slice ta ts.length tc] 32);obtain ⟨c0,c1,c2⟩:=ja3 b0;go_enter Tryz.func26,Tryz.ntmps26;go_wp2_with fail;rw [← hw0] at c0 c1 c2 ⊢;clear hw0 b0;refine (jlH ty w0).mono ?_;rintro e w1 ⟨rfl,rfl⟩
     cases hc:chk ty 0 with
     | false =>
      have E:Hid (pbE ty ds ts=5):=by show _=_;unfold pbE;rw [hc,if_pos rfl]
      clear hc;go_wp2;go_ret;exact ⟨by rw [E.out];rfl,g0⟩
     | true =>
      have E0:Hid (pbE ty ds ts=if ja2 ds≠0 then ja2 ds else if (ts.length:Int)≠cnt ds then 4 else if ts.all (chk ty) then 0 else 4):=by show _=_;unfold pbE;rw [hc,if_neg (by decide)]
      clear hc;go_wp2_with fail;refine (jbX _ ds w1 (HD.out.more g0)).mono ?_;rintro e w2 ⟨rfl,rfl⟩;obtain ⟨X,hX⟩ : ∃ X,X=ja2 ds:=⟨_,rfl⟩
      obtain ⟨Y,hY⟩ : ∃ Y,Y=cnt ds:=⟨_,rfl⟩
      rw [← hX,← hY] at E0 ⊢;clear hX hY
      by_cases hx:X=0
      ·subst hx;have E1:Hid (pbE ty ds ts=if (ts.length:Int)≠Y then 4 else if ts.all (chk ty) then 0 else 4):=by show _=_;rw [E0.out,if_neg (by simp)]
       clear E0
       by_cases hy:(ts.length:Int)=Y
       ·have hy':((ts.length:Int) != Y)=false:=by simp [hy]
        have E2:Hid (pbE ty ds ts=if ts.all (chk ty) then 0 else 4):=by show _=_;rw [E1.out,if_neg (by simp [hy])]
        clear E1 hy;go_wp2_with fail;go_loopw [28] (fun i wr=>wr=w1∧∃ k:Nat,k≤ts.length∧i=.int .i64 k∧(ts.take k).all (chk ty)=true) (fun i _=>ts.length - (intOf i).toNat)
        case atStart=>exact ⟨rfl,0,Nat.zero_le _,rfl,rfl⟩
        case round =>
         obtain ⟨rfl,k,hk,rfl,hall⟩:=hrel;have HALL:=jac hall;clear hall
         by_cases hlt:k<ts.length
         ·obtain ⟨b,off,rfl,hc⟩:=T5.out (by omega);obtain ⟨z,hz⟩ : ∃ z,z=ts.getD k 0:=⟨_,rfl⟩
          have hcell:=jae (hc k hlt) g0;rw [← hz] at hcell;have HZ:=jac hz;clear hz hc;go_wp2_with fail;refine (jfF ty z _).mono ?_;rintro e w2 ⟨rfl,rfl⟩
          cases hcz:chk ty z with
          | true =>
           have HN:Hid ((ts.take (k+1)).all (chk ty)=true):=jqc hlt HALL.out (by rw [← HZ.out];exact hcz);clear hcz;go_wp2;go_roundw
           case rel=>exact ⟨by trivial,k+1,by omega,by go_num,HN.out⟩
           case measure=>simp [intOf];omega
          | false =>
           have E:Hid (pbE ty ds ts=4):=by show _=_;rw [E2.out,jsF hlt (by rw [← HZ.out];exact hcz)];rfl
           clear hcz;go_wp2;go_ret;exact ⟨by rw [E.out];rfl,g0⟩
         ·obtain rfl:k=ts.length:=by omega
          have E:Hid (pbE ty ds ts=0):=by show _=_;rw [E2.out,show ts.all (chk ty)=true by have:=HALL.out;rwa [List.take_of_length_le (Nat.le_refl _)] at this];rfl
          go_wp2;go_ret;exact ⟨by rw [E.out];rfl,g0⟩
       ·have hy':((ts.length:Int) != Y)=true:=by simp [hy]
        have E2:Hid (pbE ty ds ts=4):=by show _=_;rw [E1.out,if_pos hy]
        clear E1 hy;go_wp2;go_ret;exact ⟨by rw [E2.out];rfl,g0⟩
      ·have h2:(X==0)=false:=by simpa using hx
       have h3':(X != 0)=true:=by simp [bne,h2]
       have E1:Hid (pbE ty ds ts=X):=by show _=_;rw [E0.out,if_pos hx]
       clear E0 hx;go_wp2;go_ret;exact ⟨by rw [E1.out];rfl,g0⟩
end Go.Proofs.YteigfipgmghgmaaGreatDoor
