/- A part. -/
import Derived.WalkKit
namespace Go.Proofs.YtekocmdfaaoggaaGreatDoor
def jbe:List Int→Int
 | []=>1
 | z::zs=>z*jbe zs
theorem jcF (a b:List Int):jbe (a++b)=jbe a*jbe b:=by
 induction a with
 | nil=>simp [jbe]
 | cons z zs ih=>simp [jbe,ih,Int.mul_assoc]
theorem prod_pos:∀ (zs:List Int),(∀ z∈zs,1≤z)→1≤jbe zs
 | [],_=>by simp [jbe]
 | z::zs,h=>by
  have h1:=h z (by simp);have h2:=prod_pos zs (fun y hy=>h y (by simp [hy]));have:=Int.mul_le_mul h1 h2 (by omega) (by omega);simpa [jbe] using this
theorem jdx {a b:Int} (ha:1≤a) (hb:0≤b):b≤a*b:=by
 have:=Int.mul_le_mul_of_nonneg_right ha hb;omega
theorem jer {a b:Int} (ha:1≤a) (hb:0≤b):b≤b*a:=by
 rw [Int.mul_comm];exact jdx ha hb
theorem jdI {zs:List Int} (h:∀ z∈zs,1≤z) (k:Nat):∀ z∈zs.drop k,1≤z:=fun z hz=>h z (List.mem_of_mem_drop hz)
theorem jeC {zs:List Int} (h:∀ z∈zs,1≤z) (k:Nat):∀ z∈zs.take k,1≤z:=fun z hz=>h z (List.mem_of_mem_take hz)
theorem jb2 {zs:List Int} (h:∀ z∈zs,1≤z) (k:Nat):jbe (zs.drop k)≤jbe zs:=by
 have e:jbe zs=jbe (zs.take k)*jbe (zs.drop k):=by rw [← jcF,List.take_append_drop]
 rw [e];have h2:=prod_pos _ (jdI h k);exact jdx (prod_pos _ (jeC h k)) (by omega)
theorem jc0 {zs:List Int} (h:∀ z∈zs,1≤z) (k:Nat):jbe (zs.take k)≤jbe zs:=by
 have e:jbe zs=jbe (zs.take k)*jbe (zs.drop k):=by rw [← jcF,List.take_append_drop]
 rw [e];have h2:=prod_pos _ (jeC h k);exact jer (prod_pos _ (jdI h k)) (by omega)
theorem jbL (zs:List Int) (k:Nat) (hk:k<zs.length):zs.drop k=zs.getD k 0::zs.drop (k+1):=by
 rw [List.drop_eq_getElem_cons hk];simp [List.getD,hk]
theorem jdq (zs:List Int) (k:Nat) (hk:k<zs.length):jbe (zs.drop k)=zs.getD k 0*jbe (zs.drop (k+1)):=by
 rw [jbL zs k hk];rfl
theorem jb3 (zs:List Int) (k:Nat) (hk:k<zs.length):zs.take (k+1)=zs.take k++[zs.getD k 0]:=by
 rw [List.take_add_one];simp [List.getD,hk]
theorem jfz (zs:List Int) (k:Nat) (hk:k<zs.length):jbe (zs.take (k+1))=jbe (zs.take k)*zs.getD k 0:=by
 rw [jb3 zs k hk,jcF];simp [jbe]
def jbt (zs:List Int):Int:=if zs.any (fun z=>decide (z<1))=true then 4 else if 6<zs.length then 6 else if 65536<jbe zs then 6 else 0
def cnt (zs:List Int):Int:=if jbt zs=0 then jbe zs else 0
theorem jh6 (zs:List Int):zs.any (fun z=>decide (z<1))=true↔∃ z∈zs,z<1:=by simp [List.any_eq_true]
theorem ji6 {zs:List Int} (h:∃ z∈zs,z<1):jbt zs=4:=by simp [jbt,(jh6 zs).2 h]
theorem jh7 {zs:List Int} (h:∀ z∈zs,1≤z):zs.any (fun z=>decide (z<1))=false:=by
 rw [Bool.eq_false_iff,ne_eq,jh6];rintro ⟨z,hz,h1⟩;have:=h z hz;omega
theorem jg6 {zs:List Int} (h:∀ z∈zs,1≤z) (hl:6<zs.length):jbt zs=6:=by simp [jbt,jh7 h,hl]
theorem jfU {zs:List Int} (h:∀ z∈zs,1≤z) (hp:65536<jbe zs):jbt zs=6:=by
 simp only [jbt,jh7 h,Bool.false_eq_true,if_false,hp,if_true]
 split <;> rfl
theorem jkY {zs:List Int} (h:∀ z∈zs,1≤z) (hl:zs.length≤6) (hp:jbe zs≤65536):jbt zs=0:=by
 simp only [jbt,jh7 h,Bool.false_eq_true,if_false,if_neg (show ¬ 6<zs.length by omega),if_neg (show ¬ 65536<jbe zs by omega)]
structure Fine (zs:List Int):Prop where
 pos:∀ z∈zs,1≤z
 few:zs.length≤6
 le:jbe zs≤65536
theorem jbl {zs:List Int} (h:jbt zs=0):Fine zs:=by
 unfold jbt at h
 split at h
 ·simp at h
 ·split at h
  ·simp at h
  ·split at h
   ·simp at h
   ·rename_i h1 h2 h3;refine ⟨fun z hz=>?_,by omega,by omega⟩
    rcases Int.lt_or_le z 1 with h4 | h4
    ·exact absurd ((jh6 zs).2 ⟨z,hz,h4⟩) h1
    ·omega
theorem Fine.ok {zs:List Int} (h:Fine zs):jbt zs=0:=jkY h.pos h.few h.le
theorem Fine.cnt {zs:List Int} (h:Fine zs):cnt zs=jbe zs:=by simp [Go.Proofs.YtekocmdfaaoggaaGreatDoor.cnt,h.ok]
theorem jpO {zs:List Int} (h:jbt zs≠0):cnt zs=0:=by simp [cnt,h]
theorem jq7 (zs:List Int):jbt zs=0∨jbt zs=4∨jbt zs=6:=by
 unfold jbt;split <;> (try split) <;> (try split) <;> simp
theorem Fine.drop {zs:List Int} (h:Fine zs) (k:Nat):Fine (zs.drop k) :=
 ⟨jdI h.pos k,by have:=h.few;simp;omega,Int.le_trans (jb2 h.pos k) h.le⟩
theorem Fine.prod_pos {zs:List Int} (h:Fine zs):1≤jbe zs:=Go.Proofs.YtekocmdfaaoggaaGreatDoor.prod_pos zs h.pos
theorem Fine.at {zs:List Int} (h:Fine zs) (k:Nat) (hk:k<zs.length):1≤zs.getD k 0:=h.pos _ (by simp [List.getD,hk])
end Go.Proofs.YtekocmdfaaoggaaGreatDoor
