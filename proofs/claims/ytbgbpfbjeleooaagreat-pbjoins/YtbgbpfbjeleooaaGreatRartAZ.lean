/- A part. -/
import Derived.Test.YtbgbpfbjeleooaaGreatRartAN
import Derived.Laws.BytesArg
import Derived.Test.YtbgbpfbjeleooaaGreatRartAA
set_option maxHeartbeats 3200000
set_option maxRecDepth 100000
namespace Go.Proofs.YtbgbpfbjeleooaaGreat.Wr
open Go.RowKit
def bcells (c:Nat):List Value:=[.int .u8 c]
abbrev OwnsB (w:World) (base:Nat) (v:Value) (l:List Nat):Prop:=OwnsL 5 1 bcells w base v l
def sof (l:List Nat):ByteArray:=strOfNums (l.map fun (n:Nat)=>(n:Int))
theorem bcells_one (x:Nat):∀ u∈bcells x,u.oneCell'=true:=by
 intro u hu;simp [bcells] at hu;rcases hu with rfl;rfl
theorem jgj (l:List Nat):l.flatMap bcells=l.map fun (n:Nat)=>Value.int .u8 n:=by
 induction l with
 | nil=>rfl
 | cons a l ih=>rw [List.flatMap_cons,ih];rfl
theorem conv_own {w:World} {base:Nat} {v:Value} {l:List Nat} (h:OwnsB w base v l):(convert 84 9 v).run Tryz.prog w=.ok (.string (sof l)) w:=by
 have h0:=h
 rcases h.2 with ⟨rfl,hn⟩ | ⟨g,cap,cur,rfl,_,_,hnc,hcm,_,_⟩
 ·obtain rfl:l=[]:=List.length_eq_zero_iff.1 hn;exact run_convert_bytes_nil (P:=Tryz.prog) w 84 5 Tryz.underlying84 Tryz.underlying5 0 0 9 Tryz.underlying9
 ·refine run_convert_bytes_arg (P:=Tryz.prog) w 84 5 Tryz.underlying84 Tryz.underlying5 g 0 l.length cap (l.map fun (n:Nat)=>(n:Int)) (by simp) ?_ 9 Tryz.underlying9;intro i hi;rw [Nat.zero_add,World.ownsRow.cellAt h0 i (by omega),jgj];simp [hi]
theorem je5 {α:Type} {te:TypeId} {size:Nat} {f:α→List Value} {w w':World} {base:Nat} {v:Value} {xs:List α} (h:OwnsL te size f w base v xs) (hb:base≤w.heap.size) (hg:w.grownBy w' v.ownBlock):Below base w w' :=
 ⟨hg.os,hg.tape,hg.output,by have:=hg.size;omega,fun k hk=>hg.block k (by omega) (fun e=>by have:=World.ownsRow.lt h k e.symm;omega)⟩
theorem vbF_len (f:Nat):∀ u,1≤(vbF f u).length∧(vbF f u).length≤f+1:=by
 induction f with
 | zero=>intro u;simp [vbF]
 | succ f ih =>
  intro u;unfold vbF
  split
  ·simp
  ·have:=ih (u / 128);simp only [List.length_cons];omega
theorem jn9 (f:Nat):∀ u,∀ c∈vbF f u,c<256:=by
 induction f with
 | zero=>intro u c hc;simp [vbF] at hc;omega
 | succ f ih =>
  intro u c hc;unfold vbF at hc
  split at hc
  ·simp at hc;omega
  ·rcases List.mem_cons.1 hc with rfl | hc
   ·omega
   ·exact ih _ c hc
theorem joa (c:Nat) (h:c<256):bits .or .u8 (c:Int) 128=((c % 128+128:Nat):Int):=by
 have:∀ c:Fin 256,bits .or .u8 ((c:Nat):Int) 128=(((c:Nat) % 128+128:Nat):Int):=by decide +kernel
 exact this ⟨c,h⟩
theorem jiP {f u:Nat} (h:¬ u<128):vbF (f+1) u=(u % 128+128)::vbF f (u / 128):=by
 conv=>lhs;unfold vbF
 rw [if_neg h]
theorem je6 {f u:Nat} (h:u<128):vbF f u=[u]:=by
 cases f with
 | zero=>simp [vbF];omega
 | succ f=>unfold vbF;rw [if_pos h]
def VI (xs0:List Nat) (u0:Nat) (f U:Nat) (xs:List Nat):Prop:=U<128 ^ (f+1)∧xs0++vb u0=xs++vbF f U
theorem VI.start (xs:List Nat) (u:Nat) (hu:u<18446744073709551616):VI xs u 10 u xs:=⟨by simp;omega,rfl⟩
theorem VI.pos {xs0:List Nat} {u0 f U:Nat} {xs:List Nat} (h:VI xs0 u0 f U xs) (hU:¬ U<128):0<f:=by
 rcases Nat.eq_zero_or_pos f with rfl | h0
 ·have:=h.1;simp at this;omega
 ·exact h0
theorem VI.next {xs0:List Nat} {u0 f U:Nat} {xs:List Nat} (h:VI xs0 u0 f U xs) (hU:¬ U<128):VI xs0 u0 (f - 1) (U / 128) (xs++[U % 128+128]):=by
 have hp:=h.pos hU;obtain ⟨g,rfl⟩ : ∃ g,f=g+1:=⟨f - 1,by omega⟩
 refine ⟨?_,?_⟩
 ·have h1:=h.1;rw [Nat.pow_succ] at h1;rw [Nat.add_sub_cancel];omega
 ·rw [h.2,jiP hU];simp
theorem VI.done {xs0:List Nat} {u0 f U:Nat} {xs:List Nat} (h:VI xs0 u0 f U xs) (hU:U<128):xs0++vb u0=xs++[U]:=by rw [h.2,je6 hU]
theorem VI.len {xs0:List Nat} {u0 f U:Nat} {xs:List Nat} (h:VI xs0 u0 f U xs):xs.length+1≤xs0.length+11:=by
 have h1:=vbF_len f U;have h2:=vbF_len 10 u0;have h3:=congrArg List.length h.2;simp [vb] at h3;omega
theorem jfJ (v0:Value) (xs0:List Nat) (u:Nat) (base:Nat) (w:World) (h:OwnsB w base v0 xs0) (hb:base≤w.heap.size) (hu:u<18446744073709551616) (hl:xs0.length≤1099511627776) :
    Calls Tryz.prog 151 #[v0,.int .u64 u] w fun e w'=>∃ v',e=.returned v'∧OwnsB w' base v' (xs0++vb u)∧Below base w w'∧w.heap.size≤w'.heap.size:=by
     obtain ⟨i0,hi,hz0,hz1,hz2⟩:=info_parts infoByte;obtain ⟨ao0,cap0,rfl⟩:=h.form;go_enter Tryz.func151,Tryz.ntmps151;go_wp2;go_loopg [0,1] 10 (fun f b x wr=>∃ v U xs,b=v∧x=.int .u64 (U:Nat)∧U<18446744073709551616∧VI xs0 u f U xs∧OwnsB wr base v xs∧Below base w wr∧w.heap.size≤wr.heap.size)
     case atStart=>exact ⟨_,u,xs0,rfl,rfl,hu,VI.start _ _ hu,h,Below.refl _ _,Nat.le_refl _⟩
     case round =>
      obtain ⟨v,U,xs,rfl,rfl,hU,hvi,hown,hbel,hsz⟩:=hrel;obtain ⟨ao,cap,rfl⟩:=hown.form;have HV:=jac hvi;have HO:=jac hown;have hlen:=hvi.len;clear hvi hown h
      by_cases hsm:U<128
      ·go_wp2_with (at_builtin;refine wpList_push rfl (.tmp 15) (.tmp 18) 84 5 1 1 _ i0 bcells rfl Tryz.underlying84 hi hz0 hz1 hz2 rfl (by decide) base _ xs rfl (by exact HO.out.more (jab wr _)) wr.heap.size 1 U _ rfl (by exact jc0 _ _ _ rfl) rfl rfl (bcells_one U) (by omega) (by simp only [maxLen];omega) (by simp;omega) ?_;intro v' w5 hown5 hg5);go_ret;exact ⟨_,rfl,by rw [HV.out.done hsm];exact hown5,(hbel.alloc (by omega) _).trans (je5 (HO.out.more (jab wr _)) (by simp;omega) hg5),by have:=hg5.size;simp at this;omega⟩
      ·have hm : bits .or .u8 ((U : Int) % 256) 128 = (U : Int) % 128 + 128 := by
         have h1:=joa (U % 256) (by omega);have e:U % 256 % 128=U % 128:=by omega
         rw [e] at h1;simpa using h1
       go_wp2_with (at_builtin;refine wpList_push rfl (.tmp 7) (.tmp 11) 84 5 1 1 _ i0 bcells rfl Tryz.underlying84 hi hz0 hz1 hz2 rfl (by decide) base _ xs rfl (by exact HO.out.more (jab wr _)) wr.heap.size 1 (U % 128+128) _ rfl (by exact jc0 _ _ _ rfl) (by simp [bcells]) rfl (bcells_one _) (by omega) (by simp only [maxLen];omega) (by simp;omega) ?_;intro v' w5 hown5 hg5);have hp:=HV.out.pos hsm;go_roundg (gk - 1)
       case measure=>omega
       case rel=>exact ⟨v',U / 128,_,rfl,by simp,by omega,HV.out.next hsm,hown5,(hbel.alloc (by omega) _).trans (je5 (HO.out.more (jab wr _)) (by simp;omega) hg5),by have:=hg5.size;simp at this;omega⟩
theorem varintS_any (u:Nat) (w:World) (hu:u<18446744073709551616) :
    Calls Tryz.prog 160 #[.int .u64 u] w fun e w'=>e=.returned (.string (sof (vb u)))∧w.grownBy w' none:=by
     have C:=jac (jfJ (.slice none 0 0) [] u w.heap.size w (OwnsL.nil _ _ _ _ _) (Nat.le_refl _) hu (by simp));go_enter Tryz.func160,Tryz.ntmps160;go_wp2_with fail;refine C.out.mono ?_;rintro e w1 ⟨v',rfl,hown,hb,-⟩;have hcv:=conv_own hown;rw [List.nil_append] at hcv;go_wp2;go_ret;exact ⟨rfl,below_grown hb⟩
end Go.Proofs.YtbgbpfbjeleooaaGreat.Wr
namespace Go.Proofs.YtbgbpfbjeleooaaGreat.Wr
open Go.RowKit
def lo (u:Nat):Nat→List Nat
 | 0=>[]
 | n+1=>u % 256::lo (u / 256) n
theorem je7 (n:Nat):∀ u,(lo u n).length=n:=by
 induction n with
 | zero=>intro u;rfl
 | succ n ih=>intro u;simp [lo,ih]
def bytesOf (s:ByteArray):List Nat:=s.data.toList.map UInt8.toNat
theorem jcm (s:ByteArray):(bytesOf s).length=s.size:=by
 unfold bytesOf;rw [List.length_map];exact Array.length_toList
def jc9 (x:Fld):Nat:=x.num.toNat*8+x.kind.toNat
def jby (x:Fld):List Nat :=
 if x.kind=0 then vb x.u.toNat else if x.kind=1 then lo x.u.toNat 8 else if x.kind=5 then lo x.u.toNat 4 else vb x.b.size++bytesOf x.b
def fb (x:Fld):List Nat:=vb (jc9 x)++jby x
def fok (x:Fld):Bool :=
 decide (1≤x.num∧x.num≤536870911)&&(if x.kind=0∨x.kind=1 then decide (x.b.size=0) else if x.kind=5 then decide (x.b.size=0∧x.u<4294967296) else if x.kind=2 then decide (x.u=0) else false)
def FldIn (x:Fld):Prop := -9223372036854775808≤x.num∧x.num≤9223372036854775807 ∧ -9223372036854775808≤x.kind∧x.kind≤9223372036854775807∧0≤x.u∧x.u<18446744073709551616∧x.b.size≤140737488351232
theorem jiQ {x:Fld} (h:fok x=true):1≤x.num∧x.num≤536870911:=by
 unfold fok at h;simp only [Bool.and_eq_true,decide_eq_true_eq] at h;exact h.1
theorem jdK {x:Fld} (h:fok x=true):(x.kind=0∧x.b.size=0)∨(x.kind=1∧x.b.size=0)∨(x.kind=5∧x.b.size=0∧x.u<4294967296)∨(x.kind=2∧x.u=0):=by
 unfold fok at h;simp only [Bool.and_eq_true] at h;obtain ⟨_,h⟩:=h
 split at h
 ·rename_i hk;simp only [decide_eq_true_eq] at h;omega
 ·split at h
  ·simp only [decide_eq_true_eq] at h;omega
  ·split at h
   ·simp only [decide_eq_true_eq] at h;omega
   ·cases h
theorem jk3 {x:Fld} (h:fok x=true):jc9 x<4294967296∧8≤jc9 x∧jc9 x / 8=x.num.toNat∧jc9 x % 8=x.kind.toNat:=by
 have h1:=jiQ h;have h2:=jdK h;unfold jc9;omega
theorem jmX {x:Fld} : 2≤(fb x).length∧(fb x).length≤22+x.b.size:=by
 have h1:=vbF_len 10 (jc9 x);have h2:=vbF_len 10 x.u.toNat;have h3:=vbF_len 10 x.b.size;have h4:=jcm x.b;have h5:=je7 8 x.u.toNat;have h6:=je7 4 x.u.toNat;unfold fb jby vb;rw [List.length_append]
 split
 ·omega
 ·split
  ·omega
  ·split
   ·omega
   ·rw [List.length_append];omega
end Go.Proofs.YtbgbpfbjeleooaaGreat.Wr
namespace Go.Proofs.YtbgbpfbjeleooaaGreat.Wr
open Go.RowKit
def s1:ByteArray:=⟨#[172,2]⟩
def s2:ByteArray:=⟨#[8,150,1,18,2,97,98]⟩
def s3:ByteArray:=⟨#[11]⟩
end Go.Proofs.YtbgbpfbjeleooaaGreat.Wr
namespace Go.Proofs.YtbgbpfbjeleooaaGreat.Wr
theorem je8 (l:List Nat):(sof l).data=(l.map fun (n:Nat)=>UInt8.ofNat n).toArray:=by
 unfold sof strOfNums;simp [List.map_map,Function.comp_def]
theorem sof_size (l:List Nat):(sof l).size=l.length:=by
 unfold sof;rw [strOfNums_size];simp
theorem sof_append (a b:List Nat):sof (a++b)=sof a++sof b:=by
 apply ByteArray.ext;rw [ByteArray.data_append,je8,je8,je8];simp
theorem jju (l:List Nat) (i:Nat) (h:i<l.length) (hb:∀ c∈l,c<256):bt (sof l) i=l[i]:=by
 unfold bt;have hs:i<(sof l).size:=by rw [sof_size];exact h
 rw [dif_pos hs];have e:(sof l)[i]=(sof l).data[i]'hs:=rfl;rw [e];simp only [je8,List.getElem_toArray,List.getElem_map];have:=hb l[i] (List.getElem_mem h);rw [UInt8.toNat_ofNat'];omega
theorem jk4 (s:ByteArray):sof (bytesOf s)=s:=by
 apply ByteArray.ext;rw [je8];unfold bytesOf;rw [List.map_map];have:(fun (n:Nat)=>UInt8.ofNat n) ∘ UInt8.toNat=id:=by funext c;simp
 rw [this];simp
theorem lo_lt (n:Nat):∀ u,∀ c∈lo u n,c<256:=by
 induction n with
 | zero=>intro u c hc;simp [lo] at hc
 | succ n ih =>
  intro u c hc
  rcases List.mem_cons.1 hc with rfl | hc
  ·omega
  ·exact ih _ c hc
theorem job (l:List Nat) (hl:∀ c∈l,c<256):∀ (f U i A:Nat) (pre:List Nat),l=pre++vbF f U→pre.length=i→i≤9→U<128 ^ (f+1)→U*128 ^ i<18446744073709551616→tkF (sof l) 0 (10 - i) i A=some (A+U*128 ^ i,i+(vbF f U).length):=by
 intro f
 induction f with
 | zero =>
  intro U i A pre h hi h9 hU h64;have hU':U<128:=by simpa using hU
  rw [je6 hU'] at h ⊢;have hlen:i<l.length:=by rw [h,List.length_append];simp;omega
  have hb:bt (sof l) (0+i)=U:=by
   rw [Nat.zero_add,jju l i hlen hl];simp only [h];rw [List.getElem_append_right (by omega)];simp
  have e:10 - i=10 - i - 1+1:=by omega
  rw [e,jfO (by rw [sof_size];omega) ?_ (by rw [hb];exact hU'),hb]
  ·simp
  ·rintro ⟨rfl,h1⟩;rw [hb] at h1;simp at h64;omega
 | succ f ih =>
  intro U i A pre h hi h9 hU h64
  by_cases hs:U<128
  ·rw [je6 hs] at h ⊢;have hlen:i<l.length:=by rw [h,List.length_append];simp;omega
   have hb:bt (sof l) (0+i)=U:=by
    rw [Nat.zero_add,jju l i hlen hl];simp only [h];rw [List.getElem_append_right (by omega)];simp
   have e:10 - i=10 - i - 1+1:=by omega
   rw [e,jfO (by rw [sof_size];omega) ?_ (by rw [hb];exact hs),hb]
   ·simp
   ·rintro ⟨rfl,h1⟩;rw [hb] at h1;simp at h64;omega
  ·rw [jiP hs] at h ⊢;have hlen:i<l.length:=by rw [h,List.length_append];simp;omega
   have hb:bt (sof l) (0+i)=U % 128+128:=by
    rw [Nat.zero_add,jju l i hlen hl];simp only [h];rw [List.getElem_append_right (by omega)];simp [hi]
   have hi8:i≠9:=by
    rintro rfl;simp at h64;omega
   have e:10 - i=10 - (i+1)+1:=by omega
   have hpow:U / 128*128 ^ (i+1)≤U*128 ^ i:=by
    rw [Nat.pow_succ,Nat.mul_comm (128 ^ i) 128,← Nat.mul_assoc];exact Nat.mul_le_mul_right _ (Nat.div_mul_le_self U 128)
   rw [e,ji5 (by rw [sof_size];omega) hi8 (by rw [hb];omega),hb];rw [ih (U / 128) (i+1) _ (pre++[U % 128+128]) (by rw [h];simp) (by simp [hi]) (by omega) (by rw [Nat.pow_succ] at hU;omega) (by omega)];have e2:(U % 128+128) % 128=U % 128:=by omega
   have e3:U*128 ^ i=U % 128*128 ^ i+U / 128*128 ^ (i+1):=by
    rw [Nat.pow_succ,Nat.mul_comm (128 ^ i) 128,← Nat.mul_assoc,← Nat.add_mul]
    congr 1
    omega
   rw [e2,e3];simp only [List.length_cons,Option.some.injEq,Prod.mk.injEq];omega
theorem tk_vb (u:Nat) (hu:u<18446744073709551616):tk (sof (vb u)) 0=some (u,(vb u).length):=by
 have h:=job (vb u) (jn9 10 u) 10 u 0 0 [] (by simp [vb]) rfl (by omega) (by simp;omega) (by simpa using hu);simpa [tk,vb] using h
theorem low_lo (l:List Nat) (hl:∀ c∈l,c<256):∀ (n u p:Nat) (pre:List Nat),l=pre++lo u n→pre.length=p→low (sof l) p n=u % 256 ^ n:=by
 intro n
 induction n with
 | zero=>intro u p pre _ _;simp [low];omega
 | succ n ih =>
  intro u p pre h hp;have hlen:p<l.length:=by rw [h,List.length_append,je7];omega
  have hb:bt (sof l) p=u % 256:=by
   rw [jju l p hlen hl];simp only [h];rw [List.getElem_append_right (by omega)];simp [hp,lo]
  rw [low,hb,ih (u / 256) (p+1) (pre++[u % 256]) (by rw [h,lo];simp) (by simp [hp]),Nat.pow_succ,Nat.mul_comm (256 ^ n) 256,Nat.mod_mul]
theorem jk5 (u n:Nat) (h:u<256 ^ n):low (sof (lo u n)) 0 n=u:=by
 rw [low_lo (lo u n) (lo_lt n u) n u 0 [] rfl rfl,Nat.mod_eq_of_lt h]
theorem fd_fb (x:Fld) (hx:fok x=true) (hin:FldIn x) (hs:x.b.size≤16777216):fd (sof (fb x)) 0=some (x,(fb x).length):=by
 obtain ⟨ht1,ht2,ht3,ht4⟩:=jk3 hx;have hk:=jdK hx;have hn:=jiQ hx;obtain ⟨num,kind,u,b⟩:=x;obtain ⟨-,-,-,-,hu0,hu1,-⟩:=hin;simp only at hk hn hu0 hu1 ht3 ht4 hs;generalize htt:jc9 ⟨num,kind,u,b⟩=t at *;have e1:sof (fb ⟨num,kind,u,b⟩)=sof (vb t)++sof (jby ⟨num,kind,u,b⟩):=by rw [← sof_append,← htt];rfl
 have e2:(fb ⟨num,kind,u,b⟩).length=(vb t).length+(jby ⟨num,kind,u,b⟩).length:=by rw [← htt];unfold fb;rw [List.length_append]
 have h1:=tk_vb t (by omega);rw [e1,e2];unfold fd;rw [tk_left h1];have hq:(vb t).length=(sof (vb t)).size+0:=by rw [sof_size];omega
 simp only;have hsz:(sof (jby ⟨num,kind,u,b⟩)).size=(jby ⟨num,kind,u,b⟩).length:=sof_size _
 conv=>lhs;rw [hq]
 rw [jhL _ _ _ _ (by omega)];have hnum:((t / 8:Nat):Int)=num:=by omega
 unfold fdT;rw [if_neg (by omega),hnum]
 have key:∀ {k:Int} {uu:Int} {bb:ByteArray} {r:Nat},k=kind→uu=u→bb=b→r=(jby ⟨num,kind,u,b⟩).length→Option.map (fun x:Fld×Nat=>(x.1,(sof (vb t)).size+x.2)) (some (⟨num,k,uu,bb⟩,r))=some (⟨num,kind,u,b⟩,(vb t).length+(jby ⟨num,kind,u,b⟩).length):=by
  intro k uu bb r h1 h2 h3 h4;subst h1 h2 h3 h4;simp [sof_size]
 have hbe:b.size=0→ByteArray.empty=b:=fun h=>(ByteArray.ext (Array.eq_empty_of_size_eq_zero h)).symm
 rcases hk with ⟨rfl,hb⟩ | ⟨rfl,hb⟩ | ⟨rfl,hb,hu⟩ | ⟨rfl,hu⟩
 ·rw [if_pos (by omega)];have et:jby ⟨num,0,u,b⟩=vb u.toNat:=by simp [jby]
  rw [et,tk_vb _ (by omega),← et];exact key rfl (by simp;omega) (hbe hb) (by rw [et])
 ·rw [if_neg (by omega),if_pos (by omega)];have et:jby ⟨num,1,u,b⟩=lo u.toNat 8:=by simp [jby]
  rw [if_pos (by rw [hsz,et,je7];omega)];refine key rfl ?_ (hbe hb) (by rw [et,je7]);rw [et,jk5 _ _ (by simp;omega)];omega
 ·rw [if_neg (by omega),if_neg (by omega),if_pos (by omega)];have et:jby ⟨num,5,u,b⟩=lo u.toNat 4:=by simp [jby]
  rw [if_pos (by rw [hsz,et,je7];omega)];refine key rfl ?_ (hbe hb) (by rw [et,je7]);rw [et,jk5 _ _ (by simp;omega)];omega
 ·rw [if_neg (by omega),if_neg (by omega),if_neg (by omega),if_pos (by omega)];have et:jby ⟨num,2,u,b⟩=vb b.size++bytesOf b:=by simp [jby]
  have h3:=tk_vb b.size (by omega);have h4:tk (sof (vb b.size++bytesOf b)) 0=some (b.size,(vb b.size).length):=by rw [sof_append];exact tk_left h3
  rw [et,h4];simp only;have h5:(sof (vb b.size++bytesOf b)).size=(vb b.size).length+b.size:=by rw [sof_size,List.length_append,jcm]
  rw [if_pos (by rw [h5];omega),← et];refine key rfl hu.symm ?_ (by rw [et,List.length_append,jcm]);rw [et,sof_append];have h6:=jhK (sof (vb b.size)) (sof (bytesOf b)) 0 b.size;rw [sof_size,Nat.add_zero] at h6;rw [h6,jk4]
  first
   | exact ByteArray.extract_zero_size
   | (apply ByteArray.ext;rw [ByteArray.data_extract];exact Array.extract_size)
theorem jnw (x:Fld) (hx:fok x=true) (hin:FldIn x) (hs:x.b.size≤16777216):all (fd (sof (fb x))) (sof (fb x)).size=some [x]:=by
 have h:=fd_fb x hx hin hs;have h2:=(jmX (x:=x)).1;have hz:(sof (fb x)).size=(fb x).length:=sof_size _;unfold all;rw [allF_some (by omega) (by omega) h,jch (by omega)]
 rfl
theorem jmj (x:Fld) (xs:List Fld):sof ((x::xs).flatMap fb)=sof (fb x)++sof (xs.flatMap fb):=by
 rw [List.flatMap_cons,sof_append]
theorem all_out:∀ (xs:List Fld),(∀ x∈xs,fok x=true∧FldIn x∧x.b.size≤16777216)→all (fd (sof (xs.flatMap fb))) (sof (xs.flatMap fb)).size=some xs:=by
 intro xs
 induction xs with
 | nil=>intro _;rfl
 | cons x xs ih =>
  intro h;obtain ⟨h1,h2,h3⟩:=h x (by simp);have hj:=all_join (jnw x h1 h2 h3) (ih (fun y hy=>h y (by simp [hy])));rw [jmj];exact hj
theorem size_in {xs:List Fld} (hx:∀ x∈xs,fok x=true) (hl:(xs.flatMap fb).length≤16777216):∀ x∈xs,x.b.size≤16777216:=by
 intro x hm;obtain ⟨a,b,rfl⟩:=List.append_of_mem hm;rw [List.flatMap_append,List.flatMap_cons,List.length_append,List.length_append] at hl;have hk:=jdK (hx x hm);have h1:=jcm x.b;have hf:(fb x).length≤16777216:=by omega
 unfold fb jby at hf;rw [List.length_append] at hf
 rcases hk with h | h | h | h
 ·omega
 ·omega
 ·omega
 ·rw [if_neg (by omega),if_neg (by omega),if_neg (by omega),List.length_append] at hf;omega
end Go.Proofs.YtbgbpfbjeleooaaGreat.Wr
