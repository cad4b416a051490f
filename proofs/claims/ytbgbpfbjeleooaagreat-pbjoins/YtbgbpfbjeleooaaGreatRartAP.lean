/- A part. -/
import Derived.Test.YtbgbpfbjeleooaaGreatRartAO
import Derived.Test.YtbgbpfbjeleooaaGreatRartAH
import Derived.Test.YtbgbpfbjeleooaaGreatRartAG
set_option maxHeartbeats 6400000
set_option maxRecDepth 100000
namespace Go.Proofs.YtbgbpfbjeleooaaGreat.Pd
open Go.RowKit
open Wr (Fld)
def jbL (s:List Int) (x:Fld):R (List Int):=if x.num=1 then (jbZ x).bind fun t=>(jbu t).bind fun d=>.ok (s++[d]) else .ok s
def jbe (s:ByteArray):R (List Int):=(jaX s).bind fun l=>(jaF jbL [] l).bind fun t=>.ok t
theorem jn4 (w:World) (base:Nat):jeR w base (.slice none 0 0) []:=⟨World.ownsRow_nil _ _ _ _,by simp,fun z hz=>by simp at hz⟩
theorem jdY {x:Fld} {s:ByteArray} (h:jbZ x=.ok s) {m:Nat} (hb:x.b.size≤m):s.size≤m:=by
 unfold jbZ at h
 rcases jb5 x 2 with e | e
 ·rw [e] at h;cases h;exact hb
 ·rw [e] at h;cases h
theorem jkM {w:World} {base te sz n:Nat} {v:Value} {cs:List Value} (h:w.ownsRow base te sz v n cs) {B:Nat} (hB:B<base):v.ownBlock=none∨v.ownBlock≠some B:=by
 rcases h.2 with ⟨e,-⟩ | ⟨g,cap,cur,e,hg,-⟩
 ·exact .inl (by rw [e];rfl)
 ·exact .inr (by rw [e];simp [Value.ownBlock];omega)
theorem jhg (s:ByteArray) (w:World) (hs:s.size≤9223372036854775807) :
    Calls Tryz.prog 159 #[.string s] w (jbU w (jbe s) fun d v w'=>∃ u:Sl,v=u.v∧jeR w' w.heap.size u.v d∧d.length≤16777216):=by
     obtain ⟨i0,hi,hz0,hz1,hz2⟩:=info_parts jiy;have O:=jac (jcI s w hs)
     rcases jbd s with ⟨l,hl⟩ | ⟨c,hc,-⟩
     ·rw [hl] at O;have FL:=jac hl;have E0:Hid (jbe s=(jaF jbL [] l).bind fun t=>.ok t):=by show _=_;unfold jbe;rw [hl];rfl
      clear hl;go_enter Tryz.func159,Tryz.ntmps159;go_wp2_with fail;refine O.out.mono ?_;rintro e w1 ⟨hg1,v,rfl,B,rfl,hcur⟩;go_wp2_with fail;have lo:=hg1.size;go_loopg [3] l.length (fun gh dv wr=>∃ (x:Fld) (r:List Fld) (st:List Int),gh=r.length∧jdo wr w.heap.size B x r∧w.grownBy wr none∧jaF jbL [] l=jaF jbL st r∧jeR wr (B+1) dv st∧st.length+r.length≤16777216∧(∀ z∈r,z.b.size≤16777216))
      case atStart=>exact ⟨_,l,[],rfl,hcur,hg1,rfl,jn4 _ _,by have:=jbq FL.out;simpa using this,fun z hz=>jdX FL.out z hz⟩
      case round =>
       obtain ⟨x,r,st,rfl,hc,hg,hf,hi0,hi1,hi2⟩:=hrel;have HF:=jac hf;have HC:=jac hc;have HG:=jac hg;have HB:Hid (w.heap.size≤B):=by obtain ⟨_,_,_,_,h⟩:=hc;exact h
       have I0:=jac hi0;have I1:=jac hi1;have I2:=jac hi2;clear hf hc hg hcur hg1 hi0 hi1 hi2;obtain ⟨va,vc,rfl⟩:=jg8 I0.out.1
       cases r with
       | nil =>
        have NX:=jac (jbX _ B x wr HC.out);have E1:Hid (jbe s=.ok st):=by show _=_;rw [E0.out,HF.out];rfl
        go_wp2_with (go_at_call 51;refine NX.out.mono ?_;rintro e w' ⟨rfl,rfl⟩);go_ret;exact jaI E1.out HG.out ⟨⟨va,st.length,vc⟩,rfl,I0.out.base_le (by have:=HB.out;omega),by have:=I1.out;simpa using this⟩
       | cons y r =>
        have NX:=jac (jbY _ B x y r wr HC.out);go_wp2_with fail;refine NX.out.mono ?_;rintro e w2 ⟨rfl,hc2,hg2⟩;have HC2:=jac hc2;have HG2:=jac (jah HG.out hg2 (fun g e=>by cases e;exact HB.out));obtain ⟨a0,a1,a2,a3⟩:=hc2.cells;have HGB:=jac hg2;clear hc2 hg2 NX HC HG
        by_cases h1:y.num=1
        ·have b1:(y.num==1)=true:=by simp [h1]
         have H1:=jac h1;clear h1;go_wp2_with fail;have TX:=jac (jaA B y w2 a1 a3);clear a0 a1 a2 a3
         rcases jaU y with ⟨sx,hx⟩ | hx
         ·rw [hx] at TX;have SX:=jac (jdY hx (I2.out y (by simp)));have HX:=jac hx;clear hx;refine TX.out.mono ?_;rintro e w3 ⟨hg3,v,rfl,rfl,rfl⟩;have RD:=jac (jiH sx w2 (by have:=SX.out;omega))
          cases hd:jbu sx with
          | error c =>
           rw [hd] at RD;have E:Hid (jbe s=.error c):=by show _=_;rw [E0.out,HF.out,jaJ (f:=jbL) (c:=c) (by unfold jbL;rw [if_pos H1.out,HX.out];show (jbu sx).bind _=_;rw [hd];rfl)];rfl
           clear hd;go_wp2_with fail;refine RD.out.mono ?_;rintro e w4 ⟨hg4,rfl⟩;exact ⟨rfl,jad E.out (jaa HG2.out hg4)⟩
          | ok d =>
           rw [hd] at RD;have ES:=jac (HF.out.trans (jay (f:=jbL) (b:=st++[d]) (by unfold jbL;rw [if_pos H1.out,HX.out];show (jbu sx).bind _=_;rw [hd];rfl)));clear hd;go_wp2_with fail;refine RD.out.mono ?_;rintro e w4 ⟨hg4,v,rfl,rfl,hd1,hd2⟩;have OW:Hid (∀ o,jeR (w4.alloc o) (B+1) (.slice va st.length vc) st):=fun o=>((I0.out.more (row:=some B) HGB.out (jkM I0.out.1 (by omega))).new hg4).new (jab _ _);have HC4:=jac (HC2.out.more hg4);have G4:=jac (jaa HG2.out hg4);have sz4:B+1≤w4.heap.size:=HC4.out.lt;have hle:st.length+1≤16777216:=by have:=I1.out;simp at this;omega
           go_wp2_with (at_builtin;refine wpList_append_own _ rfl (.tmp 15) (.tmp 19) 41 rfl (B+1) 3 i0 (.int .i64 0) 1 8 Tryz.underlying41 hi hz0 hz1 hz2 rfl (by decide) _ _ _ rfl (by exact (OW.out _).1) ⟨w4.heap.size,0,none⟩ 1 1 [.int .i64 d] rfl rfl (by have h:=cell_one_new w4 (Value.int .i64 d) 3;simpa using h) (by simp [Value.oneCell']) (by simp only [maxLen];omega) (by omega) (by simp;omega) ?_;intro v' w8 hown' hgrow _;obtain ⟨na,nc,rfl⟩:=jg8 hown')
           have ST:Hid (w.grownBy w8 none∧jeR w8 (B+1) (.slice na (st.length+1) nc) (st++[d])∧jdo w8 w.heap.size B y r):=by
            have og:=World.ownsRow.lt (OW.out (.cells #[.int .i64 d] 3)).1;refine ⟨jah (jaa G4.out (jab w4 (.cells #[.int .i64 d] 3))) hgrow (fun g e=>by have:=og g e;have:=HB.out;omega),⟨?_,?_,fun z hz=>?_⟩,(HC4.out.more (jab w4 _)).kept hgrow (fun g e=>by have:=og g e;omega)⟩
            ·rw [List.length_append,List.map_append];exact hown'
            ·rw [List.length_append,List.length_singleton];omega
            ·rcases List.mem_append.1 hz with h | h
             ·exact I0.out.2.2 z h
             ·simp at h;omega
           clear hown' hgrow OW;go_roundg r.length
           case measure=>simp
           case rel=>exact ⟨y,r,st++[d],rfl,ST.out.2.2,ST.out.1,ES.out,ST.out.2.1,by have:=I1.out;simp at this ⊢;omega,fun z hz=>I2.out z (by simp [hz])⟩
         ·rw [hx] at TX;have E:Hid (jbe s=.error 3):=by show _=_;rw [E0.out,HF.out,jaJ (f:=jbL) (c:=3) (by unfold jbL;rw [if_pos H1.out,hx];rfl)];rfl
          clear hx;refine TX.out.mono ?_;rintro e w3 ⟨hg3,rfl⟩;exact ⟨rfl,jad E.out (jaa HG2.out hg3)⟩
        ·have b1:(y.num==1)=false:=by simpa using h1
         have H1:=jac h1;clear h1;have ES:=jac (HF.out.trans (jay (f:=jbL) (b:=st) (by unfold jbL;rw [if_neg H1.out])));clear a1 a2 a3;have OW2:=jac (I0.out.more (row:=some B) HGB.out (jkM I0.out.1 (by omega)));go_wp2_with fail;clear a0;go_roundg r.length
         case measure=>simp
         case rel=>exact ⟨y,r,st,rfl,HC2.out,HG2.out,ES.out,OW2.out,by have:=I1.out;simp at this ⊢;omega,fun z hz=>I2.out z (by simp [hz])⟩
     ·rw [hc] at O;have E:Hid (jbe s=.error c):=by show _=_;unfold jbe;rw [hc];rfl
      clear hc;go_enter Tryz.func159,Tryz.ntmps159;go_wp2_with fail;refine O.out.mono ?_;rintro e w1 ⟨hg1,rfl⟩;exact ⟨rfl,jad E.out hg1⟩
end Go.Proofs.YtbgbpfbjeleooaaGreat.Pd
