/- A part. -/
import Derived.Test.YteigfipgmghgmaaGreatDoorVartBC
import Derived.Test.YteigfipgmghgmaaGreatDoorVartBE
namespace Go.Proofs.YteigfipgmghgmaaGreatDoor.Vw
open Go.RowKit
def jhe (p:Int) (n:Nat):List Int:=(List.range n).map (fun (i:Nat)=>p+i)
theorem jge (p:Int) (n:Nat):(jhe p n).length=n:=by simp [jhe]
theorem jln (p:Int) (a b:Nat):jhe p (a+b)=jhe p a++jhe (p+a) b:=by
 simp only [jhe,List.range_add,List.map_append,List.map_map]
 congr 1
 refine List.map_congr_left fun i _=>?_;simp only [Function.comp_apply,Int.natCast_add];omega
theorem juU (p:Int) (n:Nat):jhe p (n+1)=jhe p n++[p+n]:=by
 rw [jln];simp [jhe]
theorem juV (p:Int) (n i:Nat) (h:i<n):(jhe p n).getD i 0=p+i:=by simp [jhe,List.getD,h]
theorem jjo (p:Int) (m:Nat):∀ d:Nat,(List.range d).flatMap (fun (i:Nat)=>jhe (p+i*(m:Int)) m)=jhe p (d*m)
 | 0=>by simp [jhe]
 | d+1=>by
  rw [jdy,jjo p m d,Nat.add_mul,Nat.one_mul,jln,Int.natCast_mul]
theorem jjp:∀ (ds:List Int) (p:Int),(∀ d∈ds,1≤d)→plc ds (jcj ds) p=jhe p (jaA ds).toNat
 | [],p,_=>by simp [plc,jaA,jhe]
 | d::ds,p,h=>by
  have hd:=h d (by simp);have hp:=prod_pos ds fun y hy=>h y (by simp [hy]);obtain ⟨a,rfl⟩ : ∃ a:Nat,d=a:=⟨d.toNat,by omega⟩
  obtain ⟨b,hb⟩ : ∃ b:Nat,jaA ds=b:=⟨(jaA ds).toNat,by omega⟩
  simp only [plc,jcj,jaA]
  rw [show (fun (i:Nat)=>plc ds (jcj ds) (p+i*jaA ds))=fun (i:Nat)=>jhe (p+i*(b:Int)) b from by
   funext i
   rw [jjp ds _ fun y hy=>h y (by simp [hy]),hb];simp,hb,← Int.natCast_mul]
  simp only [Int.toNat_natCast];exact jjo p b a
theorem jjq:∀ (ds:List Int),(∀ d∈ds,1≤d)→lst ds (jcj ds)=jaA ds - 1
 | [],_=>by simp [lst,jaA]
 | d::ds,h=>by
  have ih:=jjq ds fun y hy=>h y (by simp [hy]);simp only [lst,jcj,jaA,ih,Int.sub_mul,Int.one_mul];omega
theorem may_whole {ds:List Int} (h:Fine ds):MayV 0 ds (jcj ds) :=
 ⟨h,jcF ds,by omega,by omega,fun s hs=>by have:=jmS h s hs;omega⟩
theorem spr_same {ds ss:List Int} (h:ss.length=ds.length):spr ds ss ds=ss:=by
 unfold spr;rw [Nat.sub_self];refine List.ext_getElem (by simp [h]) fun i h1 h2=>?_;simp only [List.getElem_map,List.getElem_range,Nat.zero_le,Nat.sub_zero,true_and,if_true];simp [List.getD,List.getElem?_eq_getElem h2]
theorem jtJ (l:List Int):(jhe 0 l.length).map (fun x=>l.getD x.toNat 0)=l:=by
 refine List.ext_getElem (by simp [jge]) fun i h1 h2=>?_;have e:(jhe 0 l.length)[i]'(by rw [jge];exact h2)=(i:Int):=by simp [jhe]
 rw [List.getElem_map,e,Int.toNat_natCast];simp [List.getD,List.getElem?_eq_getElem h2]
theorem rd_all {ds ts:List Int} (h:Fine ds) (hl:(ts.length:Int)=jaA ds):rdE 0 ds (jcj ds) ts=0∧rdL 0 ds (jcj ds) ts=ts:=by
 have hp:=h.prod_pos
 have hok:rdOk 0 ds (jcj ds) ts=true:=by
  simp only [rdOk,mayB_iff.2 (may_whole h),Bool.true_and,jjq ds h.pos,decide_eq_true_eq];omega
 refine ⟨by simp [rdE,hok],?_⟩;simp only [rdL,hok,if_true,shows,jjp ds 0 h.pos];rw [show (jaA ds).toNat=ts.length from by omega];exact jtJ ts
end Go.Proofs.YteigfipgmghgmaaGreatDoor.Vw
