/- A part. -/
import Derived.WalkKit
namespace Go.Proofs.YteigfipgmghgmaaGreatDoor
def jaR:List Int→Int
 | []=>1
 | z::zs=>z*jaR zs
theorem jdI (a b:List Int):jaR (a++b)=jaR a*jaR b:=by
 induction a with
 | nil=>simp [jaR]
 | cons z zs ih=>simp [jaR,ih,Int.mul_assoc]
theorem prod_pos:∀ (zs:List Int),(∀ z∈zs,1≤z)→1≤jaR zs
 | [],_=>by simp [jaR]
 | z::zs,h=>by
  have h1:=h z (by simp);have h2:=prod_pos zs (fun y hy=>h y (by simp [hy]));have:=Int.mul_le_mul h1 h2 (by omega) (by omega);simpa [jaR] using this
theorem jcG {a b:Int} (ha:1≤a) (hb:0≤b):b≤a*b:=by
 have:=Int.mul_le_mul_of_nonneg_right ha hb;omega
theorem jc4 {a b:Int} (ha:1≤a) (hb:0≤b):b≤b*a:=by
 rw [Int.mul_comm];exact jcG ha hb
theorem jcH {zs:List Int} (h:∀ z∈zs,1≤z) (k:Nat):∀ z∈zs.drop k,1≤z:=fun z hz=>h z (List.mem_of_mem_drop hz)
theorem jeJ {zs:List Int} (h:∀ z∈zs,1≤z) (k:Nat):∀ z∈zs.take k,1≤z:=fun z hz=>h z (List.mem_of_mem_take hz)
theorem jc5 {zs:List Int} (h:∀ z∈zs,1≤z) (k:Nat):jaR (zs.drop k)≤jaR zs:=by
 have e:jaR zs=jaR (zs.take k)*jaR (zs.drop k):=by rw [← jdI,List.take_append_drop]
 rw [e];have h2:=prod_pos _ (jcH h k);exact jcG (prod_pos _ (jeJ h k)) (by omega)
theorem jez {zs:List Int} (h:∀ z∈zs,1≤z) (k:Nat):jaR (zs.take k)≤jaR zs:=by
 have e:jaR zs=jaR (zs.take k)*jaR (zs.drop k):=by rw [← jdI,List.take_append_drop]
 rw [e];have h2:=prod_pos _ (jeJ h k);exact jc4 (prod_pos _ (jcH h k)) (by omega)
theorem jbb (zs:List Int) (k:Nat) (hk:k<zs.length):zs.drop k=zs.getD k 0::zs.drop (k+1):=by
 rw [List.drop_eq_getElem_cons hk];simp [List.getD,hk]
theorem jdy (zs:List Int) (k:Nat) (hk:k<zs.length):jaR (zs.drop k)=zs.getD k 0*jaR (zs.drop (k+1)):=by
 rw [jbb zs k hk];rfl
theorem jc6 (zs:List Int) (k:Nat) (hk:k<zs.length):zs.take (k+1)=zs.take k++[zs.getD k 0]:=by
 rw [List.take_add_one];simp [List.getD,hk]
theorem jfB (zs:List Int) (k:Nat) (hk:k<zs.length):jaR (zs.take (k+1))=jaR (zs.take k)*zs.getD k 0:=by
 rw [jc6 zs k hk,jdI];simp [jaR]
def ja7 (zs:List Int):Int:=if zs.any (fun z=>decide (z<1))=true then 4 else if 6<zs.length then 6 else if 65536<jaR zs then 6 else 0
def cnt (zs:List Int):Int:=if ja7 zs=0 then jaR zs else 0
theorem jip (zs:List Int):zs.any (fun z=>decide (z<1))=true↔∃ z∈zs,z<1:=by simp [List.any_eq_true]
theorem jjn {zs:List Int} (h:∃ z∈zs,z<1):ja7 zs=4:=by simp [ja7,(jip zs).2 h]
theorem jiq {zs:List Int} (h:∀ z∈zs,1≤z):zs.any (fun z=>decide (z<1))=false:=by
 rw [Bool.eq_false_iff,ne_eq,jip];rintro ⟨z,hz,h1⟩;have:=h z hz;omega
theorem jhq {zs:List Int} (h:∀ z∈zs,1≤z) (hl:6<zs.length):ja7 zs=6:=by simp [ja7,jiq h,hl]
theorem jfX {zs:List Int} (h:∀ z∈zs,1≤z) (hp:65536<jaR zs):ja7 zs=6:=by
 simp only [ja7,jiq h,Bool.false_eq_true,if_false,hp,if_true]
 split <;> rfl
theorem jqv {zs:List Int} (h:∀ z∈zs,1≤z) (hl:zs.length≤6) (hp:jaR zs≤65536):ja7 zs=0:=by
 simp only [ja7,jiq h,Bool.false_eq_true,if_false,if_neg (show ¬ 6<zs.length by omega),if_neg (show ¬ 65536<jaR zs by omega)]
structure Fine (zs:List Int):Prop where
 pos:∀ z∈zs,1≤z
 few:zs.length≤6
 le:jaR zs≤65536
theorem jcx {zs:List Int} (h:ja7 zs=0):Fine zs:=by
 unfold ja7 at h
 split at h
 ·simp at h
 ·split at h
  ·simp at h
  ·split at h
   ·simp at h
   ·rename_i h1 h2 h3;refine ⟨fun z hz=>?_,by omega,by omega⟩
    rcases Int.lt_or_le z 1 with h4 | h4
    ·exact absurd ((jip zs).2 ⟨z,hz,h4⟩) h1
    ·omega
theorem Fine.ok {zs:List Int} (h:Fine zs):ja7 zs=0:=jqv h.pos h.few h.le
theorem Fine.cnt {zs:List Int} (h:Fine zs):cnt zs=jaR zs:=by simp [Go.Proofs.YteigfipgmghgmaaGreatDoor.cnt,h.ok]
theorem jqw {zs:List Int} (h:ja7 zs≠0):cnt zs=0:=by simp [cnt,h]
theorem jjX (zs:List Int):ja7 zs=0∨ja7 zs=4∨ja7 zs=6:=by
 unfold ja7;split <;> (try split) <;> (try split) <;> simp
theorem Fine.drop {zs:List Int} (h:Fine zs) (k:Nat):Fine (zs.drop k) :=
 ⟨jcH h.pos k,by have:=h.few;simp;omega,Int.le_trans (jc5 h.pos k) h.le⟩
theorem Fine.prod_pos {zs:List Int} (h:Fine zs):1≤jaR zs:=Go.Proofs.YteigfipgmghgmaaGreatDoor.prod_pos zs h.pos
theorem Fine.at {zs:List Int} (h:Fine zs) (k:Nat) (hk:k<zs.length):1≤zs.getD k 0:=h.pos _ (by simp [List.getD,hk])
def jdz:List Int→List Int
 | []=>[]
 | _::zs=>jaR zs::jdz zs
theorem jdJ (zs:List Int):(jdz zs).length=zs.length:=by
 induction zs with
 | nil=>rfl
 | cons z zs ih=>simp [jdz,ih]
end Go.Proofs.YteigfipgmghgmaaGreatDoor
