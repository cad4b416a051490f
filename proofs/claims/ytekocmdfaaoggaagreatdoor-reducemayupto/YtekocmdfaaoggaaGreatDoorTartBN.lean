/- A part. -/
import Derived.Test.YtekocmdfaaoggaaGreatDoorTartBL
import Derived.Test.YtekocmdfaaoggaaGreatDoorTartAB
import Derived.Test.YtekocmdfaaoggaaGreatDoorTartBM
import Derived.RangeFuncBox
import Derived.Maps.AppendAt
namespace Go.Proofs.YtekocmdfaaoggaaGreatDoor.Vw
open Go.RowKit
def jhY (p:Int) (n:Nat):List Int:=(List.range n).map (fun (i:Nat)=>p+i)
theorem ji3 (p:Int) (n:Nat):(jhY p n).length=n:=by simp [jhY]
theorem jo7 (p:Int) (a b:Nat):jhY p (a+b)=jhY p a++jhY (p+a) b:=by
 simp only [jhY,List.range_add,List.map_append,List.map_map]
 congr 1
 refine List.map_congr_left fun i _=>?_;simp only [Function.comp_apply,Int.natCast_add];omega
theorem jm7 (p:Int) (n:Nat):jhY p (n+1)=jhY p n++[p+n]:=by
 rw [jo7];simp [jhY]
theorem jrD (p:Int) (n i:Nat) (h:i<n):(jhY p n).getD i 0=p+i:=by simp [jhY,List.getD,h]
end Go.Proofs.YtekocmdfaaoggaaGreatDoor.Vw
namespace Go.Proofs.YtekocmdfaaoggaaGreatDoor.Vw
theorem jjw:∀ (l m:List Int),l.Nodup→(∀ x∈l,x∈m)→l.length≤m.length
 | [],_,_,_=>by simp
 | a::l,m,hn,hs=>by
  rw [List.nodup_cons] at hn;have h1:=hs a (by simp);have ih:=jjw l (m.erase a) hn.2 fun x hx=>(List.mem_erase_of_ne (fun e=>hn.1 (by rw [← e];exact hx))).2 (hs x (by simp [hx]));rw [List.length_erase_of_mem h1] at ih;have:=List.length_pos_of_mem h1;simp only [List.length_cons];omega
theorem jg4 {p x:Int} {n:Nat} : x∈jhY p n↔p≤x∧x<p+n:=by
 simp only [jhY,List.mem_map,List.mem_range];exact ⟨fun ⟨i,hi,e⟩=>by omega,fun ⟨h1,h2⟩=>⟨(x - p).toNat,by omega,by omega⟩⟩
theorem jgl (p:Int):∀ n:Nat,(jhY p n).Nodup
 | 0=>by simp [jhY]
 | n+1=>by
  rw [jm7,List.nodup_append];refine ⟨jgl p n,by simp,fun a ha b hb e=>?_⟩;have h1:=jg4.1 ha;simp only [List.mem_singleton] at hb;omega
theorem IsPerm.perm {perm:List Int} {n:Nat} (h:IsPerm perm n):perm.Perm (jhY 0 n):=by
 refine (List.perm_ext_iff_of_nodup h.once (jgl 0 n)).2 fun x=>⟨fun hx=>jg4.2 (by have:=h.rng x hx;omega),fun hx=>?_⟩
 by_cases hm:x∈perm
 ·exact hm
 ·have h1 := jjw (x :: perm) (jhY 0 n) (List.nodup_cons.2 ⟨hm, h.once⟩) (fun y hy => by
    rcases List.mem_cons.1 hy with rfl | hy
    ·exact hx
    ·exact jg4.2 (by have:=h.rng y hy;omega))
  rw [ji3,List.length_cons,h.len] at h1;omega
end Go.Proofs.YtekocmdfaaoggaaGreatDoor.Vw
