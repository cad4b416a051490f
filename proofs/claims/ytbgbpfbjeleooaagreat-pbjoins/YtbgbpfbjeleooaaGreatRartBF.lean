/- A part. -/
import Derived.Test.YtbgbpfbjeleooaaGreatRartBC
import Derived.Test.YtbgbpfbjeleooaaGreatRartBD
import Derived.Test.YtbgbpfbjeleooaaGreatRartBE
set_option maxHeartbeats 6400000
set_option maxRecDepth 100000
namespace Go.Proofs.YtbgbpfbjeleooaaGreat.Wr
open Go.RowKit
def outOf (xs:List Fld):List Nat:=xs.flatMap fb
def wrote (xs:List Fld):ByteArray×Int :=
 if xs.all fok then (if (outOf xs).length≤16777216 then (sof (outOf xs),0) else (⟨#[]⟩,6)) else (⟨#[]⟩,1)
theorem jk8 {α:Type} (xs:List α) (k:Nat) (h:k<xs.length):xs.take (k+1)=xs.take k++[xs[k]]:=by rw [List.take_succ_eq_append_getElem h]
theorem jhs (xs:List Fld) (k:Nat) (h:k<xs.length):outOf (xs.take (k+1))=outOf (xs.take k)++fb xs[k]:=by
 rw [jk8 xs k h];unfold outOf;rw [List.flatMap_append];simp
theorem jk9 (xs:List Fld) (k:Nat):(outOf (xs.take k)).length≤(outOf xs).length:=by
 conv=>rhs;rw [← List.take_append_drop k xs]
 unfold outOf;rw [List.flatMap_append,List.length_append];omega
theorem jnA {xs:List Fld} {k:Nat} (h:k<xs.length) (hb:fok xs[k]=false):xs.all fok=false:=by
 rw [List.all_eq_false];exact ⟨xs[k],List.getElem_mem h,by simp [hb]⟩
theorem jjx {xs:List Fld} (h:∀ k (hk:k<xs.length),fok xs[k]=true):xs.all fok=true:=by
 rw [List.all_eq_true];intro x hx;obtain ⟨k,hk,rfl⟩:=List.getElem_of_mem hx;exact h k hk
theorem jiS {xs:List Fld} {s:ByteArray} {E:Int} (h:wrote xs=(s,E)):Ending.returned (.tuple #[.string s,.int .i64 E])=.returned (.tuple #[.string (wrote xs).1,.int .i64 (wrote xs).2]):=by rw [h]
theorem write_any (v:Value) (xs:List Fld) (w:World) (hv:jez w v xs) (hin:∀ x∈xs,FldIn x) :
    Calls Tryz.prog 103 #[v] w fun e w'=>e=.returned (.tuple #[.string (wrote xs).1,.int .i64 (wrote xs).2])∧w.grownBy w' none:=by
     have hnot:∀ (x:Bool) (w:World),(Op.unary .not (.bool x)).run Tryz.prog w=.ok (.bool (!x)) w:=fun _ _=>rfl;obtain ⟨i0,hi,hz0,hz1,hz2⟩:=info_parts infoByte;have HV:=jac hv;have HI:=jac hin;obtain ⟨va,vc,rfl,h1,h2,h3,-,h5⟩:=hv;clear hin;go_enter Tryz.func103,Tryz.ntmps103;go_wp2;go_loopg [14] xs.length (fun f i wr=>∃ k:Nat,f=xs.length - k∧k≤xs.length∧i=.int .i64 k∧w.grownBy wr none∧∀ j (_:j<k) (hj:j<xs.length),fok xs[j]=true)
     case atStart=>exact ⟨0,rfl,Nat.zero_le _,rfl,jae _,fun j h=>by omega⟩
     case round =>
      obtain ⟨k,rfl,hk,rfl,hg,hok⟩:=hrel;have HOK:=jac hok;clear hok
      by_cases hlt:k<xs.length
      ·obtain ⟨b,off,rfl,-⟩:=h5 (by omega);obtain ⟨a0,a1,a2,a3⟩:=(HV.out.more hg).at k hlt;have W1:=jac (fun wx=>jh9 xs[k] wx (HI.out _ (List.getElem_mem hlt)));dsimp only [jcH] at W1
       cases hf:fok xs[k] with
       | true =>
        rw [hf] at W1;have HF:=jac hf;clear hf;go_wp2_with fail;refine (W1.out _).mono ?_;rintro e w1 ⟨rfl,g1⟩;go_wp2;go_roundg (xs.length - (k+1))
        case measure=>omega
        case rel =>
         refine ⟨k+1,rfl,by omega,by go_num,jaa hg (jaa (jab _ _) g1),fun j h1 h2=>?_⟩
         by_cases e:j=k
         ·subst e;exact HF.out
         ·exact HOK.out j (by omega) h2
       | false =>
        rw [hf] at W1;have HW:Hid (wrote xs=(⟨#[]⟩,1)):=by unfold wrote;rw [if_neg (by rw [jnA hlt hf];simp)];rfl
        clear hf;go_wp2_with fail;refine (W1.out _).mono ?_;rintro e w1 ⟨rfl,g1⟩;go_wp2;go_ret2;exact ⟨jiS HW.out,jaa hg (jaa (jab _ _) g1)⟩
      ·have HG:Hid (∀ j (hj:j<xs.length),fok xs[j]=true):=fun j hj=>HOK.out j (by omega) hj;have hgr1:=hg;obtain rfl:k=xs.length:=by omega
       clear HOK hg;go_wp2;go_loopg [6,24] xs.length (fun f z i wr=>∃ k:Nat,f=xs.length - k∧k≤xs.length∧i=.int .i64 k∧z=.int .i64 (outOf (xs.take k)).length∧(outOf (xs.take k)).length≤16777216∧w.grownBy wr none)
       case atStart=>exact ⟨0,rfl,Nat.zero_le _,rfl,rfl,by simp [outOf],hgr1⟩
       case round =>
        obtain ⟨k,rfl,hk,rfl,rfl,hle,hg⟩:=hrel
        by_cases hlt:k<xs.length
        ·obtain ⟨b,off,rfl,-⟩:=h5 (by omega);obtain ⟨a0,a1,a2,a3⟩:=(HV.out.more hg).at k hlt;have FL:=jac (fun wx=>jgm xs[k] wx (HG.out k hlt) (HI.out _ (List.getElem_mem hlt)));dsimp only [jcH] at FL
         have hfl:(fb xs[k]).length≤140737488351254:=by
          have h1:=(jmX (x:=xs[k])).2;have h2:=(HI.out _ (List.getElem_mem hlt)).2.2.2.2.2.2;omega
         have HS:Hid ((outOf (xs.take (k+1))).length=(outOf (xs.take k)).length+(fb xs[k]).length):=by rw [jhs xs k hlt,List.length_append];rfl
         obtain ⟨S,hS⟩ : ∃ S,S=(outOf (xs.take k)).length:=⟨_,rfl⟩
         obtain ⟨F,hF⟩ : ∃ F,F=(fb xs[k]).length:=⟨_,rfl⟩
         rw [← hS] at hle HS;rw [← hF] at hfl FL HS;rw [← hS];clear hS hF
         by_cases hbig:16777216<S+F
         ·have HW : Hid (wrote xs = (⟨#[]⟩, 6)) := by
            unfold wrote;rw [if_pos (jjx HG.out),if_neg (by have h1:=jk9 xs (k+1);have h2:=HS.out;omega)]
            rfl
          go_wp2_with fail;refine (FL.out _).mono ?_;rintro e w1 ⟨rfl,g1⟩;go_wp2;go_ret2;exact ⟨jiS HW.out,jaa hg (jaa (jab _ _) g1)⟩
         ·go_wp2_with fail;refine (FL.out _).mono ?_;rintro e w1 ⟨rfl,g1⟩;go_wp2;go_roundg (xs.length - (k+1))
          case measure=>omega
          case rel=>exact ⟨k+1,rfl,by omega,by go_num,by rw [HS.out];go_num,by rw [HS.out];omega,jaa hg (jaa (jab _ _) g1)⟩
        ·obtain rfl:k=xs.length:=by omega
         rw [List.take_length] at hle;rw [List.take_length];have HW:Hid (wrote xs=(sof (outOf xs),0)):=by unfold wrote;rw [if_pos (jjx HG.out),if_pos hle];rfl
         have hgr2:=hg;obtain ⟨wm,rfl⟩ : ∃ wm,wm=wr:=⟨_,rfl⟩
         clear hgr1 hg;go_wp2_with (refine wpList_make_own _ rfl (.const (.int .i64 0)) (.tmp 35) 84 rfl wm.heap.size 5 i0 _ 1 Tryz.underlying84 hi hz0 hz1 .i64 .i64 _ (outOf xs).length rfl rfl rfl ?_ ?_ (Nat.le_refl _) ?_;(rw [hz2];omega);(simp only [maxLen];omega);intro w3 hown3 hg3);have own0:OwnsB w3 wm.heap.size (.slice (some ⟨wm.heap.size,0,none⟩) 0 (outOf xs).length) []:=hown3;have z3:=hg3.size;go_loopg [9,39] xs.length (fun f b i wr=>∃ (k:Nat) (v:Value),f=xs.length - k∧k≤xs.length∧i=.int .i64 k∧b=v∧OwnsB wr wm.heap.size v (outOf (xs.take k))∧Below wm.heap.size wm wr)
         case atStart=>exact ⟨0,_,rfl,Nat.zero_le _,rfl,rfl,by simpa [outOf] using own0,jf2 hg3⟩
         case round =>
          obtain ⟨k,v,rfl,hk,rfl,rfl,hown,hbel⟩:=hrel;clear own0 hown3;have hgw:=jaa hgr2 (below_grown hbel);have hz:=hbel.size;have hle2:=jk9 xs k
          by_cases hlt:k<xs.length
          ·obtain ⟨b,off,rfl,-⟩:=h5 (by omega);obtain ⟨a0,a1,a2,a3⟩:=(HV.out.more hgw).at k hlt;have hbs:=(HI.out _ (List.getElem_mem hlt)).2.2.2.2.2.2
           have hfl:(fb xs[k]).length≤16777216:=by
            have h1:=jk9 xs (k+1);rw [jhs xs k hlt,List.length_append] at h1;omega
           have hbs2:xs[k].b.size≤16777216:=by
            have hk2:=jdK (HG.out k hlt);have h1:=jcm xs[k].b;unfold fb jby at hfl;rw [List.length_append] at hfl
            rcases hk2 with h | h | h | h
            ·omega
            ·omega
            ·omega
            ·rw [if_neg (by omega),if_neg (by omega),if_neg (by omega),List.length_append] at hfl;omega
           have AF:=jac (fun wx (hw:wr.grownBy wx none)=>jgl _ (outOf (xs.take k)) xs[k] wm.heap.size wx (hown.more hw) (Nat.le_trans hz hw.size) (HG.out k hlt) (HI.out _ (List.getElem_mem hlt)) (by omega));dsimp only [jcH] at AF;have HN:=jac (jhs xs k hlt);have hown':=hown;obtain ⟨Y,hY⟩ : ∃ Y,Y=outOf (xs.take k):=⟨_,rfl⟩
           rw [← hY] at AF hown HN;obtain ⟨ao,cap,rfl⟩:=hown.form;clear hY hown hown' hfl hbs hbs2 hle2;go_wp2_with fail;refine (AF.out _ (jab _ _)).mono ?_;rintro e w5 ⟨v5,rfl,o5,l5,z5⟩;go_wp2;go_roundg (xs.length - (k+1))
           case measure=>omega
           case rel=>exact ⟨k+1,v5,rfl,by omega,by go_num,rfl,by rw [HN.out];exact o5,(hbel.alloc (by omega) _).trans l5⟩
          ·obtain rfl:k=xs.length:=by omega
           rw [List.take_length] at hown;have hcv:=conv_own hown;clear hown;go_wp2;go_ret2;exact ⟨jiS HW.out,hgw⟩
end Go.Proofs.YtbgbpfbjeleooaaGreat.Wr
