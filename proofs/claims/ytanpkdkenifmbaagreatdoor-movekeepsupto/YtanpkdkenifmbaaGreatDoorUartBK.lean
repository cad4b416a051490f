/- A part. -/
import Derived.Test.YtanpkdkenifmbaaGreatDoorUartBH
import Derived.Test.YtanpkdkenifmbaaGreatDoorUartBJ
import Derived.Test.YtanpkdkenifmbaaGreatDoorUartAB
namespace Go.Proofs.YtanpkdkenifmbaaGreatDoor.Vw
open Go.RowKit
def jd1 (p:Int) (n:Nat):List Int:=(List.range n).map (fun (i:Nat)=>p+i)
theorem jbO (p:Int) (n:Nat):(jd1 p n).length=n:=by simp [jd1]
theorem jjT (p:Int) (a b:Nat):jd1 p (a+b)=jd1 p a++jd1 (p+a) b:=by
 simp only [jd1,List.range_add,List.map_append,List.map_map]
 congr 1
 refine List.map_congr_left fun i _=>?_;simp only [Function.comp_apply,Int.natCast_add];omega
theorem jnM (p:Int) (n:Nat):jd1 p (n+1)=jd1 p n++[p+n]:=by
 rw [jjT];simp [jd1]
theorem jnN (p:Int) (n i:Nat) (h:i<n):(jd1 p n).getD i 0=p+i:=by simp [jd1,List.getD,h]
theorem jig (p:Int) (m:Nat):∀ d:Nat,(List.range d).flatMap (fun (i:Nat)=>jd1 (p+i*(m:Int)) m)=jd1 p (d*m)
 | 0=>by simp [jd1]
 | d+1=>by
  rw [jdf,jig p m d,Nat.add_mul,Nat.one_mul,jjT,Int.natCast_mul]
theorem jih:∀ (ds:List Int) (p:Int),(∀ d∈ds,1≤d)→plc ds (jbo ds) p=jd1 p (jaB ds).toNat
 | [],p,_=>by simp [plc,jaB,jd1]
 | d::ds,p,h=>by
  have hd:=h d (by simp);have hp:=prod_pos ds fun y hy=>h y (by simp [hy]);obtain ⟨a,rfl⟩ : ∃ a:Nat,d=a:=⟨d.toNat,by omega⟩
  obtain ⟨b,hb⟩ : ∃ b:Nat,jaB ds=b:=⟨(jaB ds).toNat,by omega⟩
  simp only [plc,jbo,jaB]
  rw [show (fun (i:Nat)=>plc ds (jbo ds) (p+i*jaB ds))=fun (i:Nat)=>jd1 (p+i*(b:Int)) b from by
   funext i
   rw [jih ds _ fun y hy=>h y (by simp [hy]),hb];simp,hb,← Int.natCast_mul]
  simp only [Int.toNat_natCast];exact jig p b a
theorem lst_whole:∀ (ds:List Int),(∀ d∈ds,1≤d)→lst ds (jbo ds)=jaB ds - 1
 | [],_=>by simp [lst,jaB]
 | d::ds,h=>by
  have ih:=lst_whole ds fun y hy=>h y (by simp [hy]);simp only [lst,jbo,jaB,ih,Int.sub_mul,Int.one_mul];omega
theorem may_whole {ds:List Int} (h:Fine ds):MayV 0 ds (jbo ds) :=
 ⟨h,jbs ds,by omega,by omega,fun s hs=>by have:=jgH h s hs;omega⟩
end Go.Proofs.YtanpkdkenifmbaaGreatDoor.Vw
namespace Go.Proofs.YtanpkdkenifmbaaGreatDoor.Vw
theorem jc7 {α β:Type} (f g:α→List β):∀ l:List α,(l.flatMap f++l.flatMap g).Perm (l.flatMap fun x=>f x++g x)
 | []=>by simp
 | x::l=>by
  have ih:=jc7 f g l;simp only [List.flatMap_cons,List.append_assoc];refine List.Perm.append_left _ ?_;refine (List.perm_append_comm_assoc _ _ _).trans ?_;exact List.Perm.append_left _ ih
theorem jii {α β γ:Type} (f:α→β→List γ) (m:List β):∀ l:List α,(l.flatMap fun a=>m.flatMap fun b=>f a b).Perm (m.flatMap fun b=>l.flatMap fun a=>f a b)
 | []=>by simp
 | a::l=>by
  simp only [List.flatMap_cons];exact (List.Perm.append_left _ (jii f m l)).trans (jc7 _ _ m)
theorem jel {α β:Type} {f g:α→List β} : ∀ l:List α,(∀ a,(f a).Perm (g a))→(l.flatMap f).Perm (l.flatMap g)
 | [],_=>by simp
 | a::l,h=>by
  simp only [List.flatMap_cons];exact (h a).append (jel l h)
def jrz:List (Int×Int)→Int→List Int
 | [],p=>[p]
 | x::l,p=>(List.range x.1.toNat).flatMap (fun (i:Nat)=>jrz l (p+i*x.2))
theorem jjl:∀ (ds ss:List Int) (p:Int),ss.length=ds.length→plc ds ss p=jrz (ds.zip ss) p
 | [],[],_,_=>rfl
 | d::ds,s::ss,p,h=>by
  simp only [plc,List.zip_cons_cons,jrz]
  congr 1
  funext i
  exact jjl ds ss _ (by simpa using h)
 | [],_::_,_,h=>by simp at h
 | _::_,[],_,h=>by simp at h
theorem jnO {l m:List (Int×Int)} (h:l.Perm m):∀ p,(jrz l p).Perm (jrz m p):=by
 induction h with
 | nil=>intro p;exact List.Perm.refl _
 | cons x _ ih=>intro p;exact jel _ fun i=>ih _
 | swap x y l =>
  intro p;simp only [jrz];refine (jii (fun (i:Nat) (j:Nat)=>jrz l (p+i*y.2+j*x.2)) _ _).trans (jel _ fun j=>jel _ fun i=>?_);rw [show p+(i:Int)*y.2+j*x.2=p+j*x.2+i*y.2 by omega]
 | trans _ _ ih1 ih2=>intro p;exact (ih1 p).trans (ih2 p)
theorem jjU:∀ (l m:List Int),l.Nodup→(∀ x∈l,x∈m)→l.length≤m.length
 | [],_,_,_=>by simp
 | a::l,m,hn,hs=>by
  rw [List.nodup_cons] at hn;have h1:=hs a (by simp);have ih:=jjU l (m.erase a) hn.2 fun x hx=>(List.mem_erase_of_ne (fun e=>hn.1 (by rw [← e];exact hx))).2 (hs x (by simp [hx]));rw [List.length_erase_of_mem h1] at ih;have:=List.length_pos_of_mem h1;simp only [List.length_cons];omega
theorem jeV {p x:Int} {n:Nat} : x∈jd1 p n↔p≤x∧x<p+n:=by
 simp only [jd1,List.mem_map,List.mem_range];exact ⟨fun ⟨i,hi,e⟩=>by omega,fun ⟨h1,h2⟩=>⟨(x - p).toNat,by omega,by omega⟩⟩
theorem jgB (p:Int):∀ n:Nat,(jd1 p n).Nodup
 | 0=>by simp [jd1]
 | n+1=>by
  rw [jnM,List.nodup_append];refine ⟨jgB p n,by simp,fun a ha b hb e=>?_⟩;have h1:=jeV.1 ha;simp only [List.mem_singleton] at hb;omega
theorem IsPerm.perm {perm:List Int} {n:Nat} (h:IsPerm perm n):perm.Perm (jd1 0 n):=by
 refine (List.perm_ext_iff_of_nodup h.once (jgB 0 n)).2 fun x=>⟨fun hx=>jeV.2 (by have:=h.rng x hx;omega),fun hx=>?_⟩
 by_cases hm:x∈perm
 ·exact hm
 ·have h1 := jjU (x :: perm) (jd1 0 n) (List.nodup_cons.2 ⟨hm, h.once⟩) (fun y hy => by
    rcases List.mem_cons.1 hy with rfl | hy
    ·exact hx
    ·exact jeV.2 (by have:=h.rng y hy;omega))
  rw [jbO,List.length_cons,h.len] at h1;omega
theorem jpK (ds ss:List Int) (h:ss.length=ds.length):(jd1 0 ds.length).map (fun p=>(ds.getD p.toNat 0,ss.getD p.toNat 0))=ds.zip ss:=by
 refine List.ext_getElem (by simp [jbO,h]) fun i h1 h2=>?_;have hi:i<ds.length:=by simpa [jbO] using h1
 have e:(jd1 0 ds.length)[i]'(by rw [jbO];exact hi)=(i:Int):=by simp [jd1]
 rw [List.getElem_map,e,List.getElem_zip];simp [List.getD,hi,show i<ss.length by omega]
theorem jpL (ds ss perm:List Int):(pickL ds perm).zip (pickL ss perm)=perm.map (fun p=>(ds.getD p.toNat 0,ss.getD p.toNat 0)):=by
 simp only [pickL]
 induction perm with
 | nil=>rfl
 | cons p l ih=>simp only [List.map_cons,List.zip_cons_cons,ih]
theorem jcx (l perm:List Int):(pickL l perm).length=perm.length:=by simp [pickL]
theorem jpM {ds ss perm:List Int} (hl:ss.length=ds.length) (hp:IsPerm perm ds.length) (p:Int):(plc (pickL ds perm) (pickL ss perm) p).Perm (plc ds ss p):=by
 rw [jjl _ _ _ (by rw [jcx,jcx]),jjl _ _ _ hl,jpL,← jpK ds ss hl];exact jnO (hp.perm.map _) p
theorem jjV:∀ (ds ss:List Int) (p:Int),ss.length=ds.length→(∀ d∈ds,1≤d)→p+lst ds ss∈plc ds ss p
 | [],[],p,_,_=>by simp [plc,lst]
 | d::ds,s::ss,p,hl,h=>by
  have hd:=h d (by simp);simp only [plc,lst,List.mem_flatMap,List.mem_range];refine ⟨(d - 1).toNat,by omega,?_⟩;have ih:=jjV ds ss (p+((d - 1).toNat:Int)*s) (by simpa using hl) fun y hy=>h y (by simp [hy]);rw [show (((d - 1).toNat:Nat):Int)=d - 1 by omega] at ih ⊢;rw [← Int.add_assoc];exact ih
 | [],_::_,_,hl,_=>by simp at hl
 | _::_,[],_,hl,_=>by simp at hl
theorem jjW {l perm:List Int} {n:Nat} (hp:IsPerm perm n) (hn:l.length=n):∀ z∈pickL l perm,z∈l:=by
 intro z hz;obtain ⟨p,hp',rfl⟩:=List.mem_map.1 hz;have:=hp.rng p hp';rw [List.getD,List.getElem?_eq_getElem (by omega)];simp
theorem jij {ds perm:List Int} (hF:Fine ds) (hp:IsPerm perm ds.length) :
    MayV 0 (pickL ds perm) (pickL (jbo ds) perm)∧rdE 0 (pickL ds perm) (pickL (jbo ds) perm) (jd1 0 (jaB ds).toNat)=0 ∧
    (rdL 0 (pickL ds perm) (pickL (jbo ds) perm) (jd1 0 (jaB ds).toNat)).Perm (jd1 0 (jaB ds).toNat):=by
     have hP:=jpM (jbs ds) hp 0;rw [jih ds 0 hF.pos] at hP;have hpos:∀ d∈pickL ds perm,1≤d:=fun d hd=>hF.pos d (jjW hp rfl d hd);have hlen:(pickL (jbo ds) perm).length=(pickL ds perm).length:=by rw [jcx,jcx]
     have hprod:jaB (pickL ds perm)=jaB ds:=by
      have h1:=hP.length_eq;rw [jdv _ _ _ hlen hpos,jbO] at h1;have h2:=prod_pos _ hpos;have h3:=hF.prod_pos;omega
     have hM:MayV 0 (pickL ds perm) (pickL (jbo ds) perm) :=
      ⟨⟨hpos,by rw [jcx,hp.len];exact hF.few,by rw [hprod];exact hF.le⟩,hlen,by omega,by omega,fun s hs=>by have:=jgH hF s (jjW hp (jbs ds) s hs);omega⟩
     have hin:∀ x∈plc (pickL ds perm) (pickL (jbo ds) perm) 0,0≤x∧x<(jaB ds).toNat:=fun x hx=>by have:=jeV.1 (hP.mem_iff.1 hx);omega
     have hlast:=hin _ (jjV _ _ 0 hlen hpos)
     have hok:rdOk 0 (pickL ds perm) (pickL (jbo ds) perm) (jd1 0 (jaB ds).toNat)=true:=by
      simp only [rdOk,mayB_iff.2 hM,Bool.true_and,jbO,decide_eq_true_eq];exact hlast.2
     refine ⟨hM,by simp [rdE,hok],?_⟩;simp only [rdL,hok,if_true,shows]
     rw [List.map_congr_left (g:=id) fun x hx=>by
      have h1:=hin x hx;rw [jnN 0 _ x.toNat (by omega)];simp only [id];omega]
     simpa using hP
end Go.Proofs.YtanpkdkenifmbaaGreatDoor.Vw
