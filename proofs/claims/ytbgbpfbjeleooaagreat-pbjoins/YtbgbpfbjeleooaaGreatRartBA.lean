/- A part. -/
import Derived.Test.YtbgbpfbjeleooaaGreatRartAZ
import Derived.Lib.BitFns
import Derived.Lib.Strings
import Derived.Lib.Slices
import Derived.Lib.Small
import Derived.Lib.Walk
set_option maxHeartbeats 4000000
set_option maxRecDepth 100000
namespace Go.Proofs.YtbgbpfbjeleooaaGreat.Wr
open Go.RowKit
theorem jjv:Lib.len8tab.size=256:=by decide +kernel
theorem jnx:∀ i:Fin 256,(Lib.len8tab.data[i.val]?.getD 0).toNat=Lib.bitLen i.val:=by decide +kernel
theorem joc (i:Nat) (h:i<Lib.len8tab.size):Lib.len8tab[i].toNat=Lib.bitLen i:=by
 have h':=jnx ⟨i,by rw [jjv] at h;exact h⟩;rw [← h'];have h2:i<Lib.len8tab.data.size:=h;simp only [Array.getElem?_eq_getElem h2,Option.getD_some]
 rfl
theorem jmY (n:Nat) (h:n<18446744073709551616):Lib.bitLen n≤64:=by
 by_cases h0:n<256
 ·have:=Lib.bitLen_le8 ⟨n,h0⟩;simp only at this;omega
 ·by_cases h1:n<65536
  ·have s:=Lib.bitLen_shift8 n (by omega) (by omega);have:=Lib.bitLen_le8 ⟨n / 256,by omega⟩;simp only at this;omega
  ·by_cases h2:n<4294967296
   ·have s:=Lib.bitLen_shift16 n (by omega) (by omega)
    by_cases h3:n / 65536<256
    ·have:=Lib.bitLen_le8 ⟨n / 65536,h3⟩;simp only at this;omega
    ·have s2:=Lib.bitLen_shift8 (n / 65536) (by omega) (by omega);have:=Lib.bitLen_le8 ⟨n / 65536 / 256,by omega⟩;simp only at this;omega
   ·have s:=Lib.bitLen_shift32 n (by omega) (by omega);obtain ⟨m,hm⟩ : ∃ m,m=n / 4294967296:=⟨_,rfl⟩
    rw [← hm] at s;have hm2:m<4294967296:=by omega
    by_cases h3:m<256
    ·have:=Lib.bitLen_le8 ⟨m,h3⟩;simp only at this;omega
    ·by_cases h4:m<65536
     ·have s2:=Lib.bitLen_shift8 m (by omega) (by omega);have:=Lib.bitLen_le8 ⟨m / 256,by omega⟩;simp only at this;omega
     ·have s2:=Lib.bitLen_shift16 m (by omega) (by omega)
      by_cases h5:m / 65536<256
      ·have:=Lib.bitLen_le8 ⟨m / 65536,h5⟩;simp only at this;omega
      ·have s3:=Lib.bitLen_shift8 (m / 65536) (by omega) (by omega);have:=Lib.bitLen_le8 ⟨m / 65536 / 256,by omega⟩;simp only at this;omega
theorem L56 (x:Int) (h:72057594037927936≤x) (hx:x≤18446744073709551615):wrap64 (56+wrap64 (Lib.bitLen (x / 4294967296 / 65536 / 256).toNat))=(Lib.bitLen x.toNat:Int):=by
 have e:(x / 4294967296 / 65536 / 256).toNat=x.toNat / 72057594037927936:=by omega
 have s:=Lib.bitLen_shift56 x.toNat (by omega) (by omega);have l:Lib.bitLen (x.toNat / 72057594037927936)≤64:=jmY _ (by omega);rw [e];unfold wrap64;omega
theorem L48 (x:Int) (h:281474976710656≤x) (hx:x≤18446744073709551615):wrap64 (48+wrap64 (Lib.bitLen (x / 4294967296 / 65536).toNat))=(Lib.bitLen x.toNat:Int):=by
 have e:(x / 4294967296 / 65536).toNat=x.toNat / 281474976710656:=by omega
 have s:=Lib.bitLen_shift48 x.toNat (by omega) (by omega);have l:Lib.bitLen (x.toNat / 281474976710656)≤64:=jmY _ (by omega);rw [e];unfold wrap64;omega
theorem L40 (x:Int) (h:1099511627776≤x) (hx:x≤18446744073709551615):wrap64 (40+wrap64 (Lib.bitLen (x / 4294967296 / 256).toNat))=(Lib.bitLen x.toNat:Int):=by
 have e:(x / 4294967296 / 256).toNat=x.toNat / 1099511627776:=by omega
 have s:=Lib.bitLen_shift40 x.toNat (by omega) (by omega);have l:Lib.bitLen (x.toNat / 1099511627776)≤64:=jmY _ (by omega);rw [e];unfold wrap64;omega
theorem L32 (x:Int) (h:4294967296≤x) (hx:x≤18446744073709551615):wrap64 (32+wrap64 (Lib.bitLen (x / 4294967296).toNat))=(Lib.bitLen x.toNat:Int):=by
 have e:(x / 4294967296).toNat=x.toNat / 4294967296:=by omega
 have s:=Lib.bitLen_shift32 x.toNat (by omega) (by omega);have l:Lib.bitLen (x.toNat / 4294967296)≤64:=jmY _ (by omega);rw [e];unfold wrap64;omega
theorem L24 (x:Int) (h:16777216≤x) (hx:x≤18446744073709551615):wrap64 (24+wrap64 (Lib.bitLen (x / 65536 / 256).toNat))=(Lib.bitLen x.toNat:Int):=by
 have e:(x / 65536 / 256).toNat=x.toNat / 16777216:=by omega
 have s:=Lib.bitLen_shift24 x.toNat (by omega) (by omega);have l:Lib.bitLen (x.toNat / 16777216)≤64:=jmY _ (by omega);rw [e];unfold wrap64;omega
theorem L16 (x:Int) (h:65536≤x) (hx:x≤18446744073709551615):wrap64 (16+wrap64 (Lib.bitLen (x / 65536).toNat))=(Lib.bitLen x.toNat:Int):=by
 have e:(x / 65536).toNat=x.toNat / 65536:=by omega
 have s:=Lib.bitLen_shift16 x.toNat (by omega) (by omega);have l:Lib.bitLen (x.toNat / 65536)≤64:=jmY _ (by omega);rw [e];unfold wrap64;omega
theorem L8 (x:Int) (h:256≤x) (hx:x≤18446744073709551615):wrap64 (8+wrap64 (Lib.bitLen (x / 256).toNat))=(Lib.bitLen x.toNat:Int):=by
 have e:(x / 256).toNat=x.toNat / 256:=by omega
 have s:=Lib.bitLen_shift8 x.toNat (by omega) (by omega);have l:Lib.bitLen (x.toNat / 256)≤64:=jmY _ (by omega);rw [e];unfold wrap64;omega
theorem L0 (x:Int) (_h:0≤x) (hx:x<256):wrap64 (wrap64 (Lib.bitLen x.toNat))=(Lib.bitLen x.toNat:Int):=by
 have l:=jmY x.toNat (by omega);unfold wrap64;omega
theorem jk6 (x:Int) (w:World) (h0:0≤x) (h1:x≤18446744073709551615) :
    Calls Tryz.prog 161 #[.int .u64 x] w fun e w'=>e=.returned (.int .i64 (Lib.bitLen x.toNat))∧w'=w:=by
     have hsz:=jjv;go_enter Tryz.func161,Tryz.ntmps161;go_wp2
     all_goals (go_ret;refine ⟨congrArg Ending.returned (congrArg (Value.int IntKind.i64) ?_),rfl⟩)
     all_goals simp only [joc]
     all_goals first
      | with_reducible exact L56 x (by omega) h1
      | with_reducible exact L48 x (by omega) h1
      | with_reducible exact L40 x (by omega) h1
      | with_reducible exact L32 x (by omega) h1
      | with_reducible exact L24 x (by omega) h1
      | with_reducible exact L16 x (by omega) h1
      | with_reducible exact L8 x (by omega) h1
      | with_reducible exact L0 x h0 (by omega)
theorem jjw:∀ n:Fin 128,1≤n.val→1≤Lib.bitLen n.val∧Lib.bitLen n.val≤7:=by decide +kernel
theorem jod:∀ (f u v:Nat),u<128 ^ (f+1)→(v=u∨(u % 2=0∧v=u+1))→1≤v→v<18446744073709551616→(Lib.bitLen v+6) / 7=(vbF f u).length:=by
 intro f
 induction f with
 | zero =>
  intro u v hu hv h1 h2;have:=jjw ⟨v,by simp at hu;omega⟩ h1;simp [vbF];simp at this;omega
 | succ f ih =>
  intro u v hu hv h1 h2
  by_cases hs:u<128
  ·have:=jjw ⟨v,by omega⟩ h1;simp at this;rw [je6 hs];simp;omega
  ·have e:Lib.bitLen v=7+Lib.bitLen (v / 128):=Lib.bitLen_shift 7 v (by omega) h2;have hd:v / 128=u / 128:=by omega
   have hi:=ih (u / 128) (u / 128) (by rw [Nat.pow_succ] at hu;omega) (.inl rfl) (by omega) (by omega);rw [jiP hs,e,hd];simp only [List.length_cons];omega
theorem jmZ (u:Nat):u ||| 1=u / 2*2+1:=by
 have h1:(u ||| 1) / 2=u / 2:=by rw [Nat.or_div_two];simp
 have h2:(u ||| 1) % 2=1:=Nat.or_mod_two_eq_one.2 (.inr rfl);omega
theorem vbLen {u:Nat} (hu:u<18446744073709551616):(Lib.bitLen (u ||| 1)+6) / 7=(vb u).length:=by
 rw [jmZ];exact jod 10 u _ (by simp;omega) (by omega) (by omega) (by omega)
theorem jcU (u:Nat) (w:World) (hu:u<18446744073709551616) :
    Calls Tryz.prog 149 #[.int .u64 u] w fun e w'=>e=.returned (.int .i64 (vb u).length)∧w'=w:=by
     have hor:bits .or .u64 (u:Int) 1=((u ||| 1:Nat):Int):=bits_or_u64_nat u 1 hu (by omega);have h1:=jmZ u;have C:=jac (jk6 ((u ||| 1:Nat):Int) w (by omega) (by omega));rw [Int.toNat_natCast] at C;have HL:=jac (vbLen hu);have hb:=vbF_len 10 u;have hb2:Lib.bitLen (u ||| 1)≤100:=by have:=HL.out;unfold vb at this;omega
     clear h1 hb;obtain ⟨o,ho⟩ : ∃ o,o=u ||| 1:=⟨_,rfl⟩
     rw [← ho] at hor C HL hb2;clear ho;go_enter Tryz.func149,Tryz.ntmps149;go_wp2_with fail;refine C.out.mono ?_;rintro e w1 ⟨rfl,rfl⟩;go_wp2;go_ret;exact ⟨congrArg Ending.returned (congrArg (Value.int IntKind.i64) (by rw [← HL.out];omega)),rfl⟩
end Go.Proofs.YtbgbpfbjeleooaaGreat.Wr
