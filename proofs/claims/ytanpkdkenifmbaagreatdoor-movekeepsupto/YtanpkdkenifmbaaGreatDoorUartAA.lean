/- A part. -/
import Derived.WalkKit
namespace Go.Proofs.YtanpkdkenifmbaaGreatDoor
def jaB:List Int→Int
 | []=>1
 | z::zs=>z*jaB zs
theorem jaW (a b:List Int):jaB (a++b)=jaB a*jaB b:=by
 induction a with
 | nil=>simp [jaB]
 | cons z zs ih=>simp [jaB,ih,Int.mul_assoc]
theorem prod_pos:∀ (zs:List Int),(∀ z∈zs,1≤z)→1≤jaB zs
 | [],_=>by simp [jaB]
 | z::zs,h=>by
  have h1:=h z (by simp);have h2:=prod_pos zs (fun y hy=>h y (by simp [hy]));have:=Int.mul_le_mul h1 h2 (by omega) (by omega);simpa [jaB] using this
theorem jcS {a b:Int} (ha:1≤a) (hb:0≤b):b≤a*b:=by
 have:=Int.mul_le_mul_of_nonneg_right ha hb;omega
theorem jb9 {a b:Int} (ha:1≤a) (hb:0≤b):b≤b*a:=by
 rw [Int.mul_comm];exact jcS ha hb
theorem jcB {zs:List Int} (h:∀ z∈zs,1≤z) (k:Nat):∀ z∈zs.drop k,1≤z:=fun z hz=>h z (List.mem_of_mem_drop hz)
theorem jeP {zs:List Int} (h:∀ z∈zs,1≤z) (k:Nat):∀ z∈zs.take k,1≤z:=fun z hz=>h z (List.mem_of_mem_take hz)
theorem jdd {zs:List Int} (h:∀ z∈zs,1≤z) (k:Nat):jaB (zs.drop k)≤jaB zs:=by
 have e:jaB zs=jaB (zs.take k)*jaB (zs.drop k):=by rw [← jaW,List.take_append_drop]
 rw [e];have h2:=prod_pos _ (jcB h k);exact jcS (prod_pos _ (jeP h k)) (by omega)
theorem jho {zs:List Int} (h:∀ z∈zs,1≤z) (k:Nat):jaB (zs.take k)≤jaB zs:=by
 have e:jaB zs=jaB (zs.take k)*jaB (zs.drop k):=by rw [← jaW,List.take_append_drop]
 rw [e];have h2:=prod_pos _ (jeP h k);exact jb9 (prod_pos _ (jcB h k)) (by omega)
theorem jbc (zs:List Int) (k:Nat) (hk:k<zs.length):zs.drop k=zs.getD k 0::zs.drop (k+1):=by
 rw [List.drop_eq_getElem_cons hk];simp [List.getD,hk]
theorem jcC (zs:List Int) (k:Nat) (hk:k<zs.length):jaB (zs.drop k)=zs.getD k 0*jaB (zs.drop (k+1)):=by
 rw [jbc zs k hk];rfl
theorem jcJ (zs:List Int) (k:Nat) (hk:k<zs.length):zs.take (k+1)=zs.take k++[zs.getD k 0]:=by
 rw [List.take_add_one];simp [List.getD,hk]
def ja7 (zs:List Int):Int:=if zs.any (fun z=>decide (z<1))=true then 4 else if 6<zs.length then 6 else if 65536<jaB zs then 6 else 0
def cnt (zs:List Int):Int:=if ja7 zs=0 then jaB zs else 0
theorem jiv (zs:List Int):zs.any (fun z=>decide (z<1))=true↔∃ z∈zs,z<1:=by simp [List.any_eq_true]
theorem jok {zs:List Int} (h:∃ z∈zs,z<1):ja7 zs=4:=by simp [ja7,(jiv zs).2 h]
theorem jiw {zs:List Int} (h:∀ z∈zs,1≤z):zs.any (fun z=>decide (z<1))=false:=by
 rw [Bool.eq_false_iff,ne_eq,jiv];rintro ⟨z,hz,h1⟩;have:=h z hz;omega
theorem jlA {zs:List Int} (h:∀ z∈zs,1≤z) (hl:6<zs.length):ja7 zs=6:=by simp [ja7,jiw h,hl]
theorem jkd {zs:List Int} (h:∀ z∈zs,1≤z) (hp:65536<jaB zs):ja7 zs=6:=by
 simp only [ja7,jiw h,Bool.false_eq_true,if_false,hp,if_true]
 split <;> rfl
theorem jlB {zs:List Int} (h:∀ z∈zs,1≤z) (hl:zs.length≤6) (hp:jaB zs≤65536):ja7 zs=0:=by
 simp only [ja7,jiw h,Bool.false_eq_true,if_false,if_neg (show ¬ 6<zs.length by omega),if_neg (show ¬ 65536<jaB zs by omega)]
structure Fine (zs:List Int):Prop where
 pos:∀ z∈zs,1≤z
 few:zs.length≤6
 le:jaB zs≤65536
theorem jaX {zs:List Int} (h:ja7 zs=0):Fine zs:=by
 unfold ja7 at h
 split at h
 ·simp at h
 ·split at h
  ·simp at h
  ·split at h
   ·simp at h
   ·rename_i h1 h2 h3;refine ⟨fun z hz=>?_,by omega,by omega⟩
    rcases Int.lt_or_le z 1 with h4 | h4
    ·exact absurd ((jiv zs).2 ⟨z,hz,h4⟩) h1
    ·omega
theorem Fine.ok {zs:List Int} (h:Fine zs):ja7 zs=0:=jlB h.pos h.few h.le
theorem Fine.cnt {zs:List Int} (h:Fine zs):cnt zs=jaB zs:=by simp [Go.Proofs.YtanpkdkenifmbaaGreatDoor.cnt,h.ok]
theorem jqw {zs:List Int} (h:ja7 zs≠0):cnt zs=0:=by simp [cnt,h]
theorem jke (zs:List Int):ja7 zs=0∨ja7 zs=4∨ja7 zs=6:=by
 unfold ja7;split <;> (try split) <;> (try split) <;> simp
theorem Fine.drop {zs:List Int} (h:Fine zs) (k:Nat):Fine (zs.drop k) :=
 ⟨jcB h.pos k,by have:=h.few;simp;omega,Int.le_trans (jdd h.pos k) h.le⟩
theorem Fine.prod_pos {zs:List Int} (h:Fine zs):1≤jaB zs:=Go.Proofs.YtanpkdkenifmbaaGreatDoor.prod_pos zs h.pos
theorem Fine.at {zs:List Int} (h:Fine zs) (k:Nat) (hk:k<zs.length):1≤zs.getD k 0:=h.pos _ (by simp [List.getD,hk])
def jbo:List Int→List Int
 | []=>[]
 | _::zs=>jaB zs::jbo zs
theorem jbs (zs:List Int):(jbo zs).length=zs.length:=by
 induction zs with
 | nil=>rfl
 | cons z zs ih=>simp [jbo,ih]
end Go.Proofs.YtanpkdkenifmbaaGreatDoor
