/- A part. -/
import Derived.WalkKit
namespace Go.Proofs.YteigfipgmghgmaaGreatDoor
def jaA:List Int→Int
 | []=>1
 | z::zs=>z*jaA zs
theorem jc3 (a b:List Int):jaA (a++b)=jaA a*jaA b:=by
 induction a with
 | nil=>simp [jaA]
 | cons z zs ih=>simp [jaA,ih,Int.mul_assoc]
theorem prod_pos:∀ (zs:List Int),(∀ z∈zs,1≤z)→1≤jaA zs
 | [],_=>by simp [jaA]
 | z::zs,h=>by
  have h1:=h z (by simp);have h2:=prod_pos zs (fun y hy=>h y (by simp [hy]));have:=Int.mul_le_mul h1 h2 (by omega) (by omega);simpa [jaA] using this
theorem jcD {a b:Int} (ha:1≤a) (hb:0≤b):b≤a*b:=by
 have:=Int.mul_le_mul_of_nonneg_right ha hb;omega
theorem jcP {a b:Int} (ha:1≤a) (hb:0≤b):b≤b*a:=by
 rw [Int.mul_comm];exact jcD ha hb
theorem jc4 {zs:List Int} (h:∀ z∈zs,1≤z) (k:Nat):∀ z∈zs.drop k,1≤z:=fun z hz=>h z (List.mem_of_mem_drop hz)
theorem jfo {zs:List Int} (h:∀ z∈zs,1≤z) (k:Nat):∀ z∈zs.take k,1≤z:=fun z hz=>h z (List.mem_of_mem_take hz)
theorem jdw {zs:List Int} (h:∀ z∈zs,1≤z) (k:Nat):jaA (zs.drop k)≤jaA zs:=by
 have e:jaA zs=jaA (zs.take k)*jaA (zs.drop k):=by rw [← jc3,List.take_append_drop]
 rw [e];have h2:=prod_pos _ (jc4 h k);exact jcD (prod_pos _ (jfo h k)) (by omega)
theorem jcQ {zs:List Int} (h:∀ z∈zs,1≤z) (k:Nat):jaA (zs.take k)≤jaA zs:=by
 have e:jaA zs=jaA (zs.take k)*jaA (zs.drop k):=by rw [← jc3,List.take_append_drop]
 rw [e];have h2:=prod_pos _ (jfo h k);exact jcP (prod_pos _ (jc4 h k)) (by omega)
theorem jba (zs:List Int) (k:Nat) (hk:k<zs.length):zs.drop k=zs.getD k 0::zs.drop (k+1):=by
 rw [List.drop_eq_getElem_cons hk];simp [List.getD,hk]
theorem jea (zs:List Int) (k:Nat) (hk:k<zs.length):jaA (zs.drop k)=zs.getD k 0*jaA (zs.drop (k+1)):=by
 rw [jba zs k hk];rfl
theorem jcE (zs:List Int) (k:Nat) (hk:k<zs.length):zs.take (k+1)=zs.take k++[zs.getD k 0]:=by
 rw [List.take_add_one];simp [List.getD,hk]
theorem jeb (zs:List Int) (k:Nat) (hk:k<zs.length):jaA (zs.take (k+1))=jaA (zs.take k)*zs.getD k 0:=by
 rw [jcE zs k hk,jc3];simp [jaA]
def ja2 (zs:List Int):Int:=if zs.any (fun z=>decide (z<1))=true then 4 else if 6<zs.length then 6 else if 65536<jaA zs then 6 else 0
def cnt (zs:List Int):Int:=if ja2 zs=0 then jaA zs else 0
theorem jjA (zs:List Int):zs.any (fun z=>decide (z<1))=true↔∃ z∈zs,z<1:=by simp [List.any_eq_true]
theorem jkP {zs:List Int} (h:∃ z∈zs,z<1):ja2 zs=4:=by simp [ja2,(jjA zs).2 h]
theorem jjB {zs:List Int} (h:∀ z∈zs,1≤z):zs.any (fun z=>decide (z<1))=false:=by
 rw [Bool.eq_false_iff,ne_eq,jjA];rintro ⟨z,hz,h1⟩;have:=h z hz;omega
theorem jin {zs:List Int} (h:∀ z∈zs,1≤z) (hl:6<zs.length):ja2 zs=6:=by simp [ja2,jjB h,hl]
theorem jgH {zs:List Int} (h:∀ z∈zs,1≤z) (hp:65536<jaA zs):ja2 zs=6:=by
 simp only [ja2,jjB h,Bool.false_eq_true,if_false,hp,if_true]
 split <;> rfl
theorem jst {zs:List Int} (h:∀ z∈zs,1≤z) (hl:zs.length≤6) (hp:jaA zs≤65536):ja2 zs=0:=by
 simp only [ja2,jjB h,Bool.false_eq_true,if_false,if_neg (show ¬ 6<zs.length by omega),if_neg (show ¬ 65536<jaA zs by omega)]
structure Fine (zs:List Int):Prop where
 pos:∀ z∈zs,1≤z
 few:zs.length≤6
 le:jaA zs≤65536
theorem jbb {zs:List Int} (h:ja2 zs=0):Fine zs:=by
 unfold ja2 at h
 split at h
 ·simp at h
 ·split at h
  ·simp at h
  ·split at h
   ·simp at h
   ·rename_i h1 h2 h3;refine ⟨fun z hz=>?_,by omega,by omega⟩
    rcases Int.lt_or_le z 1 with h4 | h4
    ·exact absurd ((jjA zs).2 ⟨z,hz,h4⟩) h1
    ·omega
theorem Fine.ok {zs:List Int} (h:Fine zs):ja2 zs=0:=jst h.pos h.few h.le
theorem Fine.cnt {zs:List Int} (h:Fine zs):cnt zs=jaA zs:=by simp [Go.Proofs.YteigfipgmghgmaaGreatDoor.cnt,h.ok]
theorem jsu {zs:List Int} (h:ja2 zs≠0):cnt zs=0:=by simp [cnt,h]
theorem jlz (zs:List Int):ja2 zs=0∨ja2 zs=4∨ja2 zs=6:=by
 unfold ja2;split <;> (try split) <;> (try split) <;> simp
theorem Fine.drop {zs:List Int} (h:Fine zs) (k:Nat):Fine (zs.drop k) :=
 ⟨jc4 h.pos k,by have:=h.few;simp;omega,Int.le_trans (jdw h.pos k) h.le⟩
theorem Fine.prod_pos {zs:List Int} (h:Fine zs):1≤jaA zs:=Go.Proofs.YteigfipgmghgmaaGreatDoor.prod_pos zs h.pos
theorem Fine.at {zs:List Int} (h:Fine zs) (k:Nat) (hk:k<zs.length):1≤zs.getD k 0:=h.pos _ (by simp [List.getD,hk])
def jcj:List Int→List Int
 | []=>[]
 | _::zs=>jaA zs::jcj zs
theorem jcF (zs:List Int):(jcj zs).length=zs.length:=by
 induction zs with
 | nil=>rfl
 | cons z zs ih=>simp [jcj,ih]
def jey:List Int→List Int→Int
 | _::zs,c::cs=>c*jaA zs+jey zs cs
 | _,_=>0
def jdn:List Int→Int→List Int
 | [],_=>[]
 | z::zs,n=>(n / jaA zs) % z::jdn zs n
theorem jc5 (zs:List Int) (n:Int):(jdn zs n).length=zs.length:=by
 induction zs with
 | nil=>rfl
 | cons z zs ih=>simp [jdn,ih]
def jaQ:List Int→List Int→Bool
 | z::zs,c::cs=>decide (0≤c∧c<z)&&jaQ zs cs
 | [],[]=>true
 | _,_=>false
theorem jek (zs:List Int) (n:Int) (h:∀ z∈zs,1≤z):jaQ zs (jdn zs n)=true:=by
 induction zs with
 | nil=>rfl
 | cons z zs ih =>
  have hz:=h z (by simp);have h1:=Int.emod_nonneg (n / jaA zs) (show z≠0 by omega);have h2:=Int.emod_lt_of_pos (n / jaA zs) (show 0<z by omega);simp [jdn,jaQ,h1,h2,ih (fun y hy=>h y (by simp [hy]))]
end Go.Proofs.YteigfipgmghgmaaGreatDoor
