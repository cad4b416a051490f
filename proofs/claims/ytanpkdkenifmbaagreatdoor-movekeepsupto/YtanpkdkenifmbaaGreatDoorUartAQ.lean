/- A part. -/
import Derived.Test.YtanpkdkenifmbaaGreatDoorMUart
import Derived.Test.YtanpkdkenifmbaaGreatDoorUartAP
import Derived.BigQuiet
import Derived.Deep.RegionWith
set_option maxHeartbeats 1000000
set_option maxRecDepth 100000
namespace Go.Proofs.YtanpkdkenifmbaaGreatDoor
open Go.RowKit
theorem IsInts.tail {w:World} {b off n c:Nat} {zs:List Int} (h:IsInts w (.slice (some ⟨b,off,none⟩) n c) zs) (hp:0<zs.length):IsInts w (.slice (if c=1 then some ⟨b,off,none⟩ else some ⟨b,off+1,none⟩) (n - 1) (c - 1)) zs.tail:=by
 obtain ⟨ao,cap,e,h1,h2,h3,h4,h5,h6⟩:=h
 cases e
 have hl:zs.tail.length=zs.length - 1:=by simp
 have hm:∀ z∈zs.tail,-9223372036854775808≤z∧z≤9223372036854775807:=fun z hz=>h6 z (List.mem_of_mem_tail hz)
 by_cases hc:c=1
 ·rw [if_pos hc];have:zs.length=1:=by omega
  exact ⟨_,_,by rw [hl],by rw [hl];omega,by omega,by rw [hl];omega,(fun h=>by cases h),fun h=>(by rw [hl] at h;omega),hm⟩
 ·rw [if_neg hc];refine ⟨_,_,by rw [hl],by rw [hl];omega,by omega,by rw [hl];omega,(fun h=>by cases h),fun _=>⟨b,off+1,rfl,fun k hk=>?_⟩,hm⟩;rw [hl] at hk;obtain ⟨b',off',e',hcx⟩:=h5 hp
  cases e'
  rw [Nat.add_assoc,Nat.add_comm 1 k,hcx (k+1) (by omega),← List.drop_one];simp [List.getD]
theorem Fine.le_each {x:List Int} (h:Fine x) {z:Int} (hz:z∈x):z≤65536:=by
 obtain ⟨k,hk,rfl⟩:=List.mem_iff_getElem.1 hz;have h1:=jdd h.pos k;have h2:=jcC x k hk;have h3:=Go.Proofs.YtanpkdkenifmbaaGreatDoor.prod_pos _ (jcB h.pos (k+1));have h4:x.getD k 0=x[k]:=by simp [List.getD,hk]
 rw [h4] at h2;have h5:=h.pos _ hz;have h6:=jb9 h3 (show 0≤x[k] by omega);have:=h.le;omega
theorem jl9 {is:List Bool} {i:Nat} (hi:i<is.length) (h:is.getD i false=false):(is.set i true).count false+1=is.count false:=by
 induction is generalizing i with
 | nil=>simp at hi
 | cons b l ih =>
  cases i with
  | zero =>
   have e:b=false:=by simpa [List.getD] using h
   subst e;simp
  | succ i =>
   have:=ih (i:=i) (by simpa using hi) (by simpa [List.getD] using h);simp only [List.set_cons_succ,List.count_cons];omega
theorem jfe {rank:Nat} : ∀ {l:List Int} {is r:List Bool},is.length=rank→jdh rank l is=some r→r.count false+l.length=is.count false∧r.length=rank
 | [],is,r,hl,h=>by
  unfold jdh at h
  cases h
  exact ⟨by simp,hl⟩
 | b::l,is,r,hl,h=>by
  unfold jdh at h
  cases hb:ja4 b rank with
  | none=>rw [hb] at h;cases h
  | some i =>
   rw [hb] at h;simp only at h
   split at h
   ·cases h
   ·rename_i hne;have hi:i<is.length:=by rw [hl];exact jbw hb
    have h1:=jfe (by rw [List.length_set];exact hl) h;have h2:=jl9 hi (by simpa using hne);refine ⟨?_,h1.2⟩;simp only [List.length_cons];omega
theorem jiN {l:List Int} {rank:Nat} {is:List Bool} (h:jbT l rank=.ok is):is.count false+l.length=rank∧is.length=rank:=by
 unfold jbT at h
 cases hx:jdh rank l (List.replicate rank false) with
 | none=>rw [hx] at h;cases h
 | some r =>
  rw [hx] at h
  cases h
  have:=jfe (by simp) hx;rw [List.count_replicate_self] at this;exact this
theorem jma {l:List Bool} {k:Nat} (hk:k<l.length) (h:l.getD k false=true) (x:List Int):jfb (l.drop k) x=1::jfb (l.drop (k+1)) x:=by
 rw [jcM l k hk,h]
 rfl
theorem jkB {l:List Bool} {k:Nat} (hk:k<l.length) (h:l.getD k false=false) (x:List Int):jfb (l.drop k) x=x.getD 0 0::jfb (l.drop (k+1)) x.tail:=by
 rw [jcM l k hk,h]
 rfl
theorem jf0 (u v:Sl) (x l:List Int) (w:World) (hx:IsInts w u.v x) (hv:IsInts w v.v l) (hf:Fine x) (hll:l.length≤100000000):Calls Tryz.prog 99 #[.slice u.a u.n u.c,.slice v.a v.n v.c] w (jaH w (jbv x l) jbf):=by
 obtain ⟨ux,uc,eu,c1,c2,c3⟩:=hx.sl;obtain ⟨ua,un,uu⟩:=u;simp only [Sl.v,Value.slice.injEq] at eu;obtain ⟨rfl,rfl,rfl⟩:=eu;obtain ⟨vx,vc,ev,d1,d2,d3⟩:=hv.sl;obtain ⟨va,vn,vv⟩:=v;simp only [Sl.v,Value.slice.injEq] at ev;obtain ⟨rfl,rfl,rfl⟩:=ev;have HX:=jac hx;have FEW:=hf.few;have AX:=jac (jco ⟨va,l.length,vv⟩ l (x.length+l.length) w hv (by omega));rw [Int.natCast_add] at AX;clear hx hf hv
 cases hk:jbT l (x.length+l.length) with
 | error c =>
  rw [hk] at AX;have E2:Hid (jbv x l=.error c):=by show _=_;unfold jbv;rw [hk];rfl
  clear hk;go_enter Tryz.func99,Tryz.ntmps99;go_wp2_with (go_at_call 87;refine AX.out.mono ?_;rintro e w' ⟨hg,rfl⟩);exact ⟨rfl,jah E2.out hg⟩
 | ok isn =>
  rw [hk] at AX;have E2:Hid (jbv x l=.ok (jfb isn x)):=by show _=_;unfold jbv;rw [hk];rfl
  have CN:=jac (jiN hk);clear hk;go_enter Tryz.func99,Tryz.ntmps99;go_wp2_with (go_at_call 87;refine AX.out.mono ?_;rintro e w3 ⟨hg3,v,rfl,B,rfl,ho,hl⟩);have G3:=jac hg3;have HO:=jac ho;have HL:=jac hl;clear hg3 ho hl;go_loopw [0,6,18] (fun xv s i wr=>∃ (k m:Nat) (u:Sl) (ta:Option Addr) (tc:Nat) (acc:List Int),k≤x.length+l.length∧i=.int .i64 k∧s=.slice u.a u.n u.c∧xv=.slice ta (x.length - m) tc∧Owns wr w3.heap.size u.v acc∧IsInts w (.slice ta (x.length - m) tc) (x.drop m)∧acc.length≤k∧acc++jfb (isn.drop k) (x.drop m)=jfb isn x∧(isn.drop k).count false=(x.drop m).length∧w3.grownBy wr none) (fun _ _ i _=>x.length+l.length - (intOf i).toNat)
  case atStart=>exact ⟨0,0,⟨none,0,0⟩,ua,uu,[],Nat.zero_le _,rfl,rfl,rfl,jbg _ _,by rw [List.drop_zero];exact HX.out,Nat.le_refl _,by simp,by have:=CN.out.1;simp;omega,jae _⟩
  case round =>
   obtain ⟨k,m,⟨qa,qn,qc⟩,ta,tc,acc,hk,rfl,rfl,rfl,ho,ht,hal,hst,hct,hg⟩:=hrel;simp only;have HO1:=jac ho;have HG:=jac hg;have HT:=jac ht;have hsz:=hg.size;obtain ⟨xx,cc,ee,f1,f2,f3⟩:=ht.sl;rw [List.length_drop] at ee f1 f3;simp only [Value.slice.injEq] at ee;obtain ⟨rfl,-,rfl⟩:=ee
   by_cases hkl:k<x.length+l.length
   ·have hgk:k<isn.length:=by rw [HL.out];exact hkl
    obtain ⟨cb,fb⟩:=(HO.out.new hg).at (k:=k) (v:=isn.getD k false) (by simp [List.getD,hgk])
    cases hb:isn.getD k false with
    | true =>
     rw [jma hgk hb] at hst;have hct2:(isn.drop (k+1)).count false=(x.drop m).length:=by rw [jcM isn k hgk,hb] at hct;simpa using hct
     rw [hb] at cb;have HST:=jac hst;have HCT:=jac hct2;clear hst hct hct2 hb ho ht hg;go_wp2_with (at_builtin;refine jbm rfl (.tmp 23) (.tmp 24) rfl w3.heap.size _ _ rfl HO1.out 1 rfl (by omega) (by omega) (by omega) ?_;intro v' w4 hown hgrow);obtain ⟨⟨xa,xn,xc⟩,rfl⟩:=hown.sl;have HO2:=jac hown;have HG2:=jac (hgrow w3 (Nat.le_refl _) HG.out);clear hown hgrow;go_roundw
     case rel=>exact ⟨k+1,m,⟨xa,xn,xc⟩,ta,tc,_,by omega,by go_num,rfl,rfl,HO2.out,HT.out,by simp;omega,by rw [← HST.out];simp,HCT.out,HG2.out⟩
     case measure=>simp [intOf];omega
    | false =>
     rw [jkB hgk hb] at hst;have hct2:(isn.drop (k+1)).count false+1=(x.drop m).length:=by rw [jcM isn k hgk,hb] at hct;simpa using hct
     have hm:m<x.length:=by simp at hct2;omega
     have hpos:0<(x.drop m).length:=by omega
     obtain ⟨b,off,rfl,hc⟩:=ht.get hpos;have hcell:wr.cell? ⟨b,off+0,none⟩=some (.int .i64 ((x.drop m).getD 0 0)):=jad (hc 0 hpos) (jaa G3.out hg);rw [Nat.add_zero] at hcell;have hwf:=ht.wf ((x.drop m).getD 0 0) (by rw [List.getD,List.getElem?_eq_getElem hpos];exact List.getElem_mem hpos);have pt:=ht.tail hpos;have et:(x.drop m).tail=x.drop (m+1):=by rw [← List.drop_one,List.drop_drop]
     rw [et] at hst pt;rw [Nat.sub_sub] at pt;rw [hb] at cb;have HST:=jac hst;have HPT:=jac pt;have HCT:Hid ((isn.drop (k+1)).count false=(x.drop (m+1)).length):=by show _=_;rw [List.length_drop] at hct2 ⊢;omega
     obtain ⟨d,hd⟩ : ∃ d,d=(x.drop m).getD 0 0:=⟨_,rfl⟩
     rw [← hd] at hcell hwf HST;clear hst hct hct2 hb ho ht hg hc pt et hd;go_wp2_with (at_builtin;refine jbm rfl (.tmp 26) (.tmp 30) rfl w3.heap.size _ _ rfl HO1.out d rfl hwf (by omega) (by omega) ?_;intro v' w4 hown hgrow);obtain ⟨⟨xa,xn,xc⟩,rfl⟩:=hown.sl;have HO2:=jac hown;have HG2:=jac (hgrow w3 (Nat.le_refl _) HG.out);clear hown hgrow;go_roundw
     case rel=>rw [Nat.sub_sub];exact ⟨k+1,m+1,⟨xa,xn,xc⟩,_,_,_,by omega,by go_num,rfl,rfl,HO2.out,HPT.out,by simp;omega,by rw [← HST.out];simp,HCT.out,HG2.out⟩
     case measure=>simp [intOf];omega
   ·have E3 : Hid (jbv x l = .ok acc) := by
      show _=_;rw [E2.out,← hst,List.drop_of_length_le (l:=isn) (by rw [HL.out];omega)];simp [jfb]
    clear ho hg hst ht hct;go_wp2;go_ret;exact jap E3.out (jaa G3.out HG.out) ⟨⟨qa,qn,qc⟩,rfl,HO1.out.ints⟩
theorem joU (w:World) (a:Option Addr) (l c:Nat):(binOp .eql 29 (.slice a l c) (.slice none 0 0)).run Tryz.prog w=.ok (.bool a.isNone) w:=by
 cases a <;> kernel_rfl
theorem jiO (w:World):Owns (w.alloc (.cells #[] 3)) w.heap.size (.slice (some ⟨w.heap.size,0,none⟩) 0 0) [] :=
 ⟨⟨rfl,.inr ⟨w.heap.size,0,#[],rfl,Nat.le_refl _,heap_alloc_new w _,Nat.le_refl _,by simp [maxLen],rfl,rfl⟩⟩,by simp,fun z hz=>by simp at hz⟩
theorem jdC (u:Sl) (zs:List Int) (w:World) (h:IsInts w u.v zs) :
    Calls Tryz.prog 58 #[.slice u.a u.n u.c] w fun e w'=>∃ u:Sl,e=.returned (.slice u.a u.n u.c)∧Owns w' w.heap.size u.v zs∧w.grownBy w' none:=by
     have H:=jac h;obtain ⟨ua,un,uc⟩:=u;obtain ⟨ux,cc,eu,c1,c2,c3⟩:=h.sl;simp only [Sl.v,Value.slice.injEq] at eu;obtain ⟨rfl,rfl,rfl⟩:=eu;simp only;have q:=joU w ua zs.length uc
     cases ua with
     | none =>
      obtain ⟨ao,cap,e,h1,h2,h3,h4,h5,h6⟩:=h
      cases e
      obtain ⟨rfl,rfl⟩:=h4 rfl;clear h4 h5 h6;simp only [List.length_nil] at q ⊢;go_enter Tryz.func58,Tryz.ntmps58;go_wp2;go_ret;exact ⟨⟨none,0,0⟩,rfl,jbg _ _,jae _⟩
     | some ad =>
      clear h;go_enter Tryz.func58,Tryz.ntmps58;have OE:=jac (jiO w);have HM:Hid (∀ o,IsInts (w.alloc o) (.slice (some ad) zs.length uc) zs):=fun o=>H.out.more (jab _ _);clear H;go_wp2_with (at_builtin;refine jdu rfl (.tmp 5) (.tmp 6) rfl w.heap.size (.slice (some ⟨w.heap.size,0,none⟩) 0 0) [] rfl OE.out (.slice (some ad) zs.length uc) zs rfl (HM.out _) ?_ ?_ ?_;(simpa using c3);simp;intro v' w1 hown hgrow);go_ret;obtain ⟨s,rfl⟩:=hown.sl;exact ⟨s,rfl,by simpa using hown,jao (jab w (.cells #[] 3)) hgrow (fun r e=>by cases e;exact Nat.le_refl _)⟩
theorem Owns.shape {w:World} {base:Nat} {v:Value} {zs:List Int} (h:Owns w base v zs) (hl:0<zs.length):∃ g cap,v=.slice (some ⟨g,0,none⟩) zs.length cap∧base≤g∧g<w.heap.size∧zs.length≤cap∧cap≤9223372036854775807:=by
 rcases h.1.2 with ⟨-,h0⟩ | ⟨g,cap,cur,e,hg,hh,h1,h2,-⟩
 ·omega
 ·exact ⟨g,cap,e,hg,by have:=(Array.getElem?_eq_some_iff.1 hh).1;exact this,h1,by simpa [maxLen] using h2⟩
theorem Owns.cells {w:World} {base g cap:Nat} {zs:List Int} (h:Owns w base (.slice (some ⟨g,0,none⟩) zs.length cap) zs) {k:Nat} (hk:k<zs.length):w.cell? ⟨g,k,none⟩=some (.int .i64 (zs.getD k 0))∧w.frozen? ⟨g,k,none⟩=false:=by
 refine ⟨?_,World.ownsRow.frozenAt h.1 k⟩;obtain ⟨b,off,e,hc⟩:=h.ints.get hk
 cases e
 have:=hc k hk
 rwa [Nat.zero_add] at this
theorem Owns.put {w:World} {base g cap:Nat} {zs:List Int} (h:Owns w base (.slice (some ⟨g,0,none⟩) zs.length cap) zs) (k:Nat) (z:Int) (hz : -9223372036854775808≤z∧z≤9223372036854775807):Owns (w.setCell ⟨g,k,none⟩ (.int .i64 z)) base (.slice (some ⟨g,0,none⟩) zs.length cap) (zs.set k z)∧w.grownBy (w.setCell ⟨g,k,none⟩ (.int .i64 z)) (some g):=by
 have s:=World.ownsRow.stored h.1 k (.int .i64 z);rw [← List.map_set] at s;refine ⟨⟨?_,by rw [List.length_set];exact h.2.1,fun y hy=>?_⟩,s.2⟩
 ·rw [List.length_set];exact s.1
 ·rcases List.mem_or_eq_of_mem_set hy with h1 | rfl
  ·exact h.2.2 y h1
  ·exact hz
theorem jmb {r:Nat} {l:List Int} {k:Nat} (hk:k<l.length) (dims:List Int):joR r (l.drop k) k dims=if 0≤l.getD k 0∧l.getD k 0≤65536 then joR r (l.drop (k+1)) (k+1) (dims.set (k % r) (dims.getD (k % r) 0+l.getD k 0)) else .error 4:=by
 rw [jbc l k hk];simp only [joR,jal]
 by_cases h:0≤l.getD k 0∧l.getD k 0≤65536
 ·rw [if_pos (by simpa using h),if_pos h]
  rfl
 ·rw [if_neg (by simpa using h),if_neg h]
  rfl
theorem jkC (u v:Sl) (x l:List Int) (w:World) (hx:IsInts w u.v x) (hv:IsInts w v.v l) (hf:Fine x):Calls Tryz.prog 97 #[.slice u.a u.n u.c,.slice v.a v.n v.c] w (jaH w (jcH x l) jbf):=by
 obtain ⟨ux,uc,eu,c1,c2,c3⟩:=hx.sl;obtain ⟨ua,un,uu⟩:=u;simp only [Sl.v,Value.slice.injEq] at eu;obtain ⟨rfl,rfl,rfl⟩:=eu;obtain ⟨vx,vc,ev,d1,d2,d3⟩:=hv.sl;obtain ⟨va,vn,vv⟩:=v;simp only [Sl.v,Value.slice.injEq] at ev;obtain ⟨rfl,rfl,rfl⟩:=ev;have HV:=jac hv;have FEW:=hf.few;have CL:=jac (jdC ⟨ua,x.length,uu⟩ x w hx)
 have PB:Hid (∀ z∈x,1≤z∧z≤65536):=fun z hz=>⟨hf.pos z hz,by
  have:=Fine.le_each hf hz;exact this⟩
 clear hx hf hv;simp only at CL ⊢
 by_cases hlen:l.length=2*x.length
 ·have b0:((l.length:Int)==2*(x.length:Int))=true:=by simp;omega
  have E1:Hid (jcH x l=joR x.length l 0 x):=by show _=_;unfold jcH jal;simp [hlen];rfl
  have HLEN:=jac hlen;clear hlen;go_enter Tryz.func97,Tryz.ntmps97;go_wp2_with (first | (go_at_call 67;refine (jaq _).mono ?_;rintro e w' ⟨rfl,rfl⟩) | (go_at_call 58;refine CL.out.mono ?_;rintro e w3 ⟨⟨qa,qn,qc⟩,rfl,ho,hg3⟩;simp only));have HO:=jac ho;have G3:=jac hg3;clear ho hg3 b0 CL;go_loopw [19] (fun i wr=>∃ (k:Nat) (L:List Int),k≤l.length∧i=.int .i64 k∧Owns wr w.heap.size (.slice qa qn qc) L∧L.length=x.length∧joR x.length (l.drop k) k L=joR x.length l 0 x∧(∀ z∈L,0≤z∧z≤65536+65536*k)∧w.grownBy wr none) (fun i _=>l.length - (intOf i).toNat)
  case atStart=>exact ⟨0,x,Nat.zero_le _,rfl,HO.out,rfl,by rw [List.drop_zero],fun z hz=>by have:=PB.out z hz;omega,G3.out⟩
  case round =>
   obtain ⟨k,L,hk,rfl,ho,hL,hst,hbd,hg⟩:=hrel;have HG:=jac hg;have HO1:=jac ho
   by_cases hkl:k<l.length
   ·have hxp:0<x.length:=by have:=HLEN.out;omega
    obtain ⟨b,off,rfl,hc⟩:=HV.out.get hkl;have hcell:wr.cell? ⟨b,off+k,none⟩=some (.int .i64 (l.getD k 0)):=jad (hc k hkl) hg;rw [jmb hkl] at hst;obtain ⟨p,hp0⟩ : ∃ p,p=l.getD k 0:=⟨_,rfl⟩
    rw [← hp0] at hcell hst;clear hc hp0
    by_cases hp:0≤p∧p≤65536
    ·rw [if_pos hp] at hst;obtain ⟨hp1,hp2⟩:=hp;obtain ⟨g,cap,eo,hbg,hgl,hlc,hcm⟩:=ho.shape (by rw [hL];exact hxp);simp only [Value.slice.injEq] at eo;obtain ⟨rfl,rfl,rfl⟩:=eo;obtain ⟨m,hm⟩ : ∃ m:Nat,m=k % x.length:=⟨_,rfl⟩
     have hml:m<x.length:=by rw [hm];exact Nat.mod_lt _ hxp
     obtain ⟨cc,fc⟩:=ho.cells (k:=m) (by rw [hL];exact hml);have hbm:=hbd (L.getD m 0) (by rw [List.getD,List.getElem?_eq_getElem (by rw [hL];exact hml)];exact List.getElem_mem _);rw [← hm] at hst;obtain ⟨q,hq⟩ : ∃ q,q=L.getD m 0:=⟨_,rfl⟩
     rw [← hq] at cc hbm hst;have hkk:(k:Int)≤12:=by have:=HLEN.out;omega
     obtain ⟨so,sg⟩:=ho.put m (q+p) (by omega);have SO:=jac so;have SG:=jac (jay hg sg hbg);have HST:=jac hst
     have HB:Hid (∀ z∈L.set m (q+p),0≤z∧z≤65536+65536*((k+1:Nat):Int)):=fun z hz=>by
      rcases List.mem_or_eq_of_mem_set hz with h1 | rfl
      ·have:=hbd z h1;omega
      ·omega
     have hmod:(k:Int).tmod (x.length:Int)=(m:Int):=by rw [hm,Int.tmod_eq_emod_of_nonneg (by omega)];omega
     have hx0:¬ (x.length:Int)=0:=by omega
     have HLL:=jac hL;rw [hL];rw [hL] at hlc;clear hst hbd ho hg so sg hq hm hL;go_wp2_with (first | (go_at_call 67;refine (jaq _).mono ?_;rintro e w' ⟨rfl,rfl⟩) | fail);go_roundw
     case rel=>exact ⟨k+1,_,by omega,by go_num,by have h:=SO.out;rw [HLL.out] at h;exact h,by rw [List.length_set];exact HLL.out,HST.out,HB.out,SG.out⟩
     case measure=>simp [intOf];omega
    ·rw [if_neg hp] at hst;have E3:Hid (jcH x l=.error 4):=by show _=_;rw [E1.out,← hst]
     clear hst hbd ho hg
     by_cases h0:0≤p
     ·have h1:¬ p≤65536:=fun h=>hp ⟨h0,h⟩;clear hp;go_wp2_with (first | (go_at_call 67;refine (jav _).mono ?_;rintro e w' ⟨rfl,rfl⟩) | fail);exact ⟨rfl,jah E3.out HG.out⟩
     ·clear hp;go_wp2_with (first | (go_at_call 67;refine (jav _).mono ?_;rintro e w' ⟨rfl,rfl⟩) | fail);exact ⟨rfl,jah E3.out HG.out⟩
   ·have E3 : Hid (jcH x l = .ok L) := by
      show _=_;rw [E1.out,← hst,List.drop_of_length_le (by omega)]
      rfl
    clear hst hbd ho hg;go_wp2;go_ret;exact jap E3.out HG.out ⟨⟨qa,qn,qc⟩,rfl,HO1.out.ints⟩
 ·have b0:((l.length:Int)==2*(x.length:Int))=false:=by simpa using (fun h=>hlen (by omega):¬ (l.length:Int)=2*x.length)
  have E1:Hid (jcH x l=.error 4):=by show _=_;unfold jcH jal;simp [hlen];rfl
  clear hlen;go_enter Tryz.func97,Tryz.ntmps97;go_wp2_with (go_at_call 67;refine (jav _).mono ?_;rintro e w' ⟨rfl,rfl⟩);exact ⟨rfl,jah E1.out (jae _)⟩
end Go.Proofs.YtanpkdkenifmbaaGreatDoor
namespace Go.Proofs.YtanpkdkenifmbaaGreatDoor
open Go.RowKit
theorem Fine.take {zs:List Int} (h:Fine zs) (k:Nat):Fine (zs.take k) :=
 ⟨jeP h.pos k,by have:=h.few;simp;omega,Int.le_trans (jho h.pos k) h.le⟩
theorem IsInts.front {w:World} {a:Option Addr} {n c:Nat} {zs:List Int} (h:IsInts w (.slice a n c) zs) {k:Nat} (hk:k≤zs.length):IsInts w (.slice a k c) (zs.take k):=by
 obtain ⟨ao,cap,e,h1,h2,h3,h4,h5,h6⟩:=h
 cases e
 have hl:(zs.take k).length=k:=by simp;omega
 refine ⟨a,c,by rw [hl],by rw [hl];omega,h2,by rw [hl];omega,fun h=>?_,fun hp=>?_,fun z hz=>h6 z (List.mem_of_mem_take hz)⟩
 ·obtain ⟨rfl,rfl⟩:=h4 h;exact ⟨by simp,rfl⟩
 ·rw [hl] at hp;obtain ⟨b,off,rfl,hc⟩:=h5 (by omega);refine ⟨b,off,rfl,fun t ht=>?_⟩;rw [hl] at ht;rw [hc t (by omega)];simp [List.getD,ht]
theorem IsInts.back {w:World} {ad:Addr} {n c:Nat} {zs:List Int} (h:IsInts w (.slice (some ad) n c) zs) {k:Nat} (hk:k≤zs.length):IsInts w (.slice (if c=k then some ad else some (ad.add k)) (n - k) (c - k)) (zs.drop k):=by
 obtain ⟨ao,cap,e,h1,h2,h3,h4,h5,h6⟩:=h
 cases e
 have hl:(zs.drop k).length=zs.length - k:=by simp
 have hm:∀ z∈zs.drop k,-9223372036854775808≤z∧z≤9223372036854775807:=fun z hz=>h6 z (List.mem_of_mem_drop hz)
 by_cases hc:c=k
 ·rw [if_pos hc];exact ⟨_,_,by rw [hl],by rw [hl];omega,by omega,by rw [hl];omega,(fun h=>by cases h),fun h=>(by rw [hl] at h;omega),hm⟩
 ·rw [if_neg hc];refine ⟨_,_,by rw [hl],by rw [hl];omega,by omega,by rw [hl];omega,(fun h=>by cases h),fun hp=>?_,hm⟩;rw [hl] at hp;obtain ⟨b',off',e',hcx⟩:=h5 (by omega)
  cases e'
  refine ⟨b',off'+k,by rw [Addr.add_lit],fun t ht=>?_⟩;rw [hl] at ht;rw [Nat.add_assoc,hcx (k+t) (by omega)];simp [List.getD]
theorem jgZ (n:Nod) (A:At) (u:Sl) (x:List Int) (w:World) (hn:NodeOk w n A) (hx:IsInts w u.v x) (hf:Fine x):Calls Tryz.prog 100 #[jaA n,.slice u.a u.n u.c] w (jaH w (jbD A x) jbf):=by
 obtain ⟨ux,uc,eu,c1,c2,c3⟩:=hx.sl;obtain ⟨ua,un,uu⟩:=u;simp only [Sl.v,Value.slice.injEq] at eu;obtain ⟨rfl,rfl,rfl⟩:=eu;have HX:=jac hx;have FEW:=hf.few;have FN:=jac hf;clear hx hf;have RG:=hn.int ⟨#[97,120,105,115]⟩ 1 (by omega);have NK:=jac hn;obtain ⟨op,nam,⟨ia,il,ic⟩,out,⟨ao,al,cap⟩⟩:=n;unfold jaA;simp only;obtain ⟨w0,hw0⟩ : ∃ w0,w0=w.alloc (.cells #[.string op,.string nam,.slice ia il ic,.string out,.slice ao al cap] 25):=⟨_,rfl⟩
 have g0:Hid (w.grownBy w0 none):=by show w.grownBy w0 none;rw [hw0];exact jab _ _
 have hb0:=heap_alloc_new w (.cells #[.string op,.string nam,.slice ia il ic,.string out,.slice ao al cap] 25);rw [← hw0] at hb0;have BX:Hid (∀ wx,w0.grownBy wx none→wx.heap[w.heap.size]?=some (.cells #[.string op,.string nam,.slice ia il ic,.string out,.slice ao al cap] 25 (0,0))):=fun wx hg=>jag hb0 hg;clear hb0 hn;have I0:=jac (jbK ⟨op,nam,⟨ia,il,ic⟩,out,⟨ao,al,cap⟩⟩ A ⟨#[97,120,105,115]⟩ 1 w0 (NK.out.more g0.out));unfold jaA at I0;simp only at I0;obtain ⟨z,hz⟩ : ∃ z,z=A.int ⟨#[97,120,105,115]⟩ 1:=⟨_,rfl⟩
 rw [← hz] at I0 RG;obtain ⟨y,hy⟩ : ∃ y,y=jaQ z x.length:=⟨_,rfl⟩
 have FE:=jac (fun wx=>jdV z x.length wx (by omega) RG.1);rw [← hy] at FE;have E0:Hid (jbD A x=(jal (decide (0≤y∧y≤x.length))).bind (fun _=>(jaR (x.take y.toNat)).bind (fun a=>(jaR (x.drop y.toNat)).bind (fun b=>.ok [a,b])))):=by show _=_;unfold jbD;rw [← hz,← hy];rfl
 clear hy hz;go_enter Tryz.func100,Tryz.ntmps100;go_wp2_with fail;rw [← hw0];clear hw0;refine I0.out.mono ?_;rintro e w1 ⟨rfl,hg1⟩;have G1:=jac (jaa g0.out hg1);clear hg1 I0
 by_cases h0:0≤y
 ·by_cases h1:y≤x.length
  ·obtain ⟨k,rfl⟩:=Int.eq_ofNat_of_zero_le h0;have hk:k≤x.length:=by omega
   have P1:Hid (jaR (x.take k)=.ok (jaB (x.take k))):=by show _=_;unfold jaR;rw [if_pos (FN.out.take k).ok]
   have P2:Hid (jaR (x.drop k)=.ok (jaB (x.drop k))):=by show _=_;unfold jaR;rw [if_pos (FN.out.drop k).ok]
   have E1:Hid (jbD A x=.ok [jaB (x.take k),jaB (x.drop k)]):=by show _=_;rw [E0.out,Int.toNat_natCast,P1.out,P2.out];simp [jal,h0,h1];rfl
   have B1:=(FN.out.take k).le;have B1':=(FN.out.take k).prod_pos;have B2:=(FN.out.drop k).le;have B2':=(FN.out.drop k).prod_pos;have X1:=jac (HX.out.more G1.out);have CF:=jac (fun (wx:World) (hg:w.grownBy wx none)=>jb2 _ _ wx ((HX.out.front hk).more hg));rw [P1.out] at CF;obtain ⟨p1,hp1⟩ : ∃ p,p=jaB (x.take k):=⟨_,rfl⟩
   obtain ⟨p2,hp2⟩ : ∃ p,p=jaB (x.drop k):=⟨_,rfl⟩
   rw [← hp1] at CF E1 B1 B1';rw [← hp2] at E1 B2 B2';go_wp2_with (first | (go_at_call 63;refine (FE.out _).mono ?_;rintro e w' ⟨rfl,rfl⟩) | (go_at_call 67;refine (jaq _).mono ?_;rintro e w' ⟨rfl,rfl⟩) | fail);have hku:k≤uu:=by omega
   have q1:(0:Int)≤(k:Int):=by omega
   have q2:(k:Int)≤(uu:Int):=by omega
   have q3:(k:Int)≤(x.length:Int):=by omega
   cases ua with
   | none =>
    obtain ⟨ao',cap',e,h1',h2',h3',h4',h5',h6'⟩:=HX.out
    cases e
    obtain ⟨hx0,rfl⟩:=h4' rfl;subst hx0;have hk0:k=0:=by simpa using hk
    subst hk0;have CN:=jac (fun (wx:World)=>jb2 (.slice none 0 0) [] wx ⟨none,0,rfl,Nat.le_refl _,by decide,by simp,fun _=>⟨rfl,rfl⟩,fun h=>(by simp at h),fun z hz=>(by simp at hz)⟩);rw [show jaR []=.ok 1 from rfl] at CN;have e1:p1=1:=hp1;have e2:p2=1:=hp2;subst e1 e2;clear h4' h5' h6' hp1 hp2;simp only [List.length_nil] at *;go_region_held3 (fun _=>True) (trivial) (first | (go_at_call 69;refine (CN.out _).mono ?_;rintro e w' ⟨-,v,rfl,rfl,rfl⟩) | fail);go_wp2;go_ret;exact jap E1.out (jaa (jaf G1.out) (jab _ _)) ⟨⟨_,2,2⟩,rfl,jbt _ [1,1] 3 (by decide) (by decide)⟩
   | some ad =>
    have CB:=jac (fun (wx:World) (hg:w.grownBy wx none)=>jb2 _ _ wx ((HX.out.back hk).more hg));rw [P2.out,← hp2] at CB;simp only at CF CB;clear hp1 hp2
    by_cases huk:uu=k
    ·rw [if_pos huk] at CB;have e1:x.length - k=0:=by omega
     have e2:uu - k=0:=by omega
     have e3:k=x.length:=by omega
     have e4:uu=x.length:=by omega
     rw [e1,e2] at CB;clear e1 e2 huk;subst e3 e4;go_region_held3 (fun _=>True) (trivial) (first | (go_at_call 69;have hh:=done1;refine (CB.out _ (jaf G1.out)).mono ?_;rintro e w' ⟨-,v,rfl,rfl,rfl⟩) | (go_at_call 69;refine (CF.out _ (jaf G1.out)).mono ?_;rintro e w' ⟨-,v,rfl,rfl,rfl⟩;have done1:True:=trivial) | fail);go_wp2;go_ret;exact jap E1.out (jaa (jaf G1.out) (jab _ _)) ⟨⟨_,2,2⟩,rfl,jbt _ [p1,p2] 3 (by simp) (fun y hy=>by simp at hy;omega)⟩
    ·rw [if_neg huk] at CB;go_region_held3 (fun _=>True) (trivial) (first | (go_at_call 69;have hh:=done1;refine (CB.out _ (jaf G1.out)).mono ?_;rintro e w' ⟨-,v,rfl,rfl,rfl⟩) | (go_at_call 69;refine (CF.out _ (jaf G1.out)).mono ?_;rintro e w' ⟨-,v,rfl,rfl,rfl⟩;have done1:True:=trivial) | fail);go_wp2;go_ret;exact jap E1.out (jaa (jaf G1.out) (jab _ _)) ⟨⟨_,2,2⟩,rfl,jbt _ [p1,p2] 3 (by simp) (fun y hy=>by simp at hy;omega)⟩
  ·have E1:Hid (jbD A x=.error 4):=by show _=_;rw [E0.out];simp [jal,h0,h1];rfl
   have b1:decide (y≤(x.length:Int))=false:=by simpa using h1
   go_wp2_with (first | (go_at_call 63;refine (FE.out _).mono ?_;rintro e w' ⟨rfl,rfl⟩) | (go_at_call 67;refine (jav _).mono ?_;rintro e w' ⟨rfl,rfl⟩));exact ⟨rfl,jah E1.out G1.out⟩
 ·have E1:Hid (jbD A x=.error 4):=by show _=_;rw [E0.out];simp [jal,h0];rfl
  go_wp2_with (first | (go_at_call 63;refine (FE.out _).mono ?_;rintro e w' ⟨rfl,rfl⟩) | (go_at_call 67;refine (jav _).mono ?_;rintro e w' ⟨rfl,rfl⟩));exact ⟨rfl,jah E1.out G1.out⟩
end Go.Proofs.YtanpkdkenifmbaaGreatDoor
namespace Go.Proofs.YtanpkdkenifmbaaGreatDoor
open Go.RowKit
theorem jbb {a b:World} (h:a.grownBy b none) (n:Nat):a.grownBy (b.drewN n) none:=⟨h.os,h.tape,h.output,h.size,h.block⟩
theorem jiP {x al ss es:List Int} {k:Nat} (h1:k<al.length) (h2:k<ss.length) (h3:k<es.length) (dims:List Int):jbR x (al.drop k) (ss.drop k) (es.drop k) dims=(jcl (al.getD k 0) x.length).bind (fun axis=>(jal (decide (jaM (ss.getD k 0) (x.getD axis 0).toNat<jaM (es.getD k 0) (x.getD axis 0).toNat))).bind (fun _=>jbR x (al.drop (k+1)) (ss.drop (k+1)) (es.drop (k+1)) (dims.set axis (jaM (es.getD k 0) (x.getD axis 0).toNat - jaM (ss.getD k 0) (x.getD axis 0).toNat)))):=by
 rw [jbc al k h1,jbc ss k h2,jbc es k h3]
 rfl
theorem jff (x:Int) (d:Nat):0≤jaM x d∧jaM x d≤d:=by
 unfold jaM
 split <;> split at*<;> omega
theorem jkD (n:Nod) (A:At) (u:Sl) (x:List Int) (w:World) (hn:NodeOk w n A) (hx:IsInts w u.v x) (hf:Fine x):Calls Tryz.prog 94 #[jaA n,.slice u.a u.n u.c] w (jaH w (jbN A x) jbf):=by
 obtain ⟨ux,uc,eu,c1,c2,c3⟩:=hx.sl;obtain ⟨ua,un,uu⟩:=u;simp only [Sl.v,Value.slice.injEq] at eu;obtain ⟨rfl,rfl,rfl⟩:=eu;have HX:=jac hx;have FEW:=hf.few;have PB:Hid (∀ z∈x,1≤z∧z≤65536):=fun z hz=>⟨hf.pos z hz,hf.le_each hz⟩
 clear hx hf;have NK:=jac hn;obtain ⟨op,nam,⟨ia,il,ic⟩,out,⟨ao,al,cap⟩⟩:=n;unfold jaA;simp only;obtain ⟨w0,hw0⟩ : ∃ w0,w0=w.alloc (.cells #[.string op,.string nam,.slice ia il ic,.string out,.slice ao al cap] 25):=⟨_,rfl⟩
 have g0:Hid (w.grownBy w0 none):=by show w.grownBy w0 none;rw [hw0];exact jab _ _
 have hb0:=heap_alloc_new w (.cells #[.string op,.string nam,.slice ia il ic,.string out,.slice ao al cap] 25);rw [← hw0] at hb0;have BX:Hid (∀ wx,w0.grownBy wx none→wx.heap[w.heap.size]?=some (.cells #[.string op,.string nam,.slice ia il ic,.string out,.slice ao al cap] 25 (0,0))):=fun wx hg=>jag hb0 hg;clear hb0 hn;have NI:=jac (fun (wx:World) (nm:ByteArray) (hg:w.grownBy wx none)=>jbj ⟨op,nam,⟨ia,il,ic⟩,out,⟨ao,al,cap⟩⟩ A nm ⟨none,0,0⟩ [] wx (NK.out.more hg) ⟨none,0,rfl,Nat.le_refl _,by decide,by simp,fun _=>⟨rfl,rfl⟩,fun h=>(by simp at h),fun z hz=>(by simp at hz)⟩);have NU:=jac (fun (wx:World) (B r:Nat) (hg:w.grownBy wx none) (hB:IsInts wx (.slice (some ⟨B,0,none⟩) r r) (jb1 r))=>jbj ⟨op,nam,⟨ia,il,ic⟩,out,⟨ao,al,cap⟩⟩ A ⟨#[97,120,101,115]⟩ ⟨some ⟨B,0,none⟩,r,r⟩ _ wx (NK.out.more hg) hB);have CL:=jac (fun (wx:World) (hg:w.grownBy wx none)=>jdC ⟨ua,x.length,uu⟩ x wx (HX.out.more hg));unfold jaA at NI NU;simp only at NI NU CL;obtain ⟨n0,n1,n2,n3,n4⟩:=jai (n:=⟨op,nam,⟨ia,il,ic⟩,out,⟨ao,al,cap⟩⟩) (BX.out w0 (jae _));go_enter Tryz.func94,Tryz.ntmps94;go_wp2_with fail;rw [← hw0];clear hw0;go_region_held3 (fun w'=>w'.cell? ⟨w.heap.size,0,none⟩=some (.string op)∧w'.cell? ⟨w.heap.size,1,none⟩=some (.string nam)∧w'.cell? ⟨w.heap.size,2,none⟩=some (.slice ia il ic)∧w'.cell? ⟨w.heap.size,3,none⟩=some (.string out)∧w'.cell? ⟨w.heap.size,4,none⟩=some (.slice ao al cap)) (go_keep) (first | (go_at_call 39;have hh:=done1;refine (NI.out _ _ (jaa g0.out g1)).mono ?_;rintro e w2 ⟨es,rfl,hes,hg2⟩;have g2:w0.grownBy w2 none:=jaa g1 hg2;obtain ⟨n0,n1,n2,n3,n4⟩:=jai (n:=⟨op,nam,⟨ia,il,ic⟩,out,⟨ao,al,cap⟩⟩) (BX.out w2 (g2))) | (go_at_call 39;refine (NI.out _ _ (jaa g0.out (jaf (jae _)))).mono ?_;rintro e w1 ⟨ss,rfl,hss,hg1⟩;have g1:w0.grownBy w1 none:=jaa (jaf (jae _)) hg1;obtain ⟨n0,n1,n2,n3,n4⟩:=jai (n:=⟨op,nam,⟨ia,il,ic⟩,out,⟨ao,al,cap⟩⟩) (BX.out w1 (g1));have done1:True:=trivial) | fail);obtain ⟨S,hS⟩ : ∃ S,S=A.ints ⟨#[115,116,97,114,116,115]⟩ []:=⟨_,rfl⟩
 obtain ⟨E,hE⟩ : ∃ E,E=A.ints ⟨#[101,110,100,115]⟩ []:=⟨_,rfl⟩
 rw [← hS] at hss;rw [← hE] at hes;have HSx:=jac hS;have HEx:=jac hE;clear hS hE;obtain ⟨sx,sc,es1,s1,s2,s3⟩:=hss.sl;obtain ⟨sa,sn,sv⟩:=ss;simp only [Sl.v,Value.slice.injEq] at es1;obtain ⟨rfl,rfl,rfl⟩:=es1;obtain ⟨ex,ec,ee1,e1,e2,e3⟩:=hes.sl;obtain ⟨ea,en,ev⟩:=es;simp only [Sl.v,Value.slice.injEq] at ee1;obtain ⟨rfl,rfl,rfl⟩:=ee1;simp only [Sl.v] at hss hes ⊢;have HSS:=jac (hss.more hg2);have HES:=jac hes;have G2:=jac g2;clear hss hes hg1 hg2 g1 g2 NI done1;go_wp2_with fail;go_region_held3 (fun w'=>w'.cell? ⟨w.heap.size,0,none⟩=some (.string op)∧w'.cell? ⟨w.heap.size,1,none⟩=some (.string nam)∧w'.cell? ⟨w.heap.size,2,none⟩=some (.slice ia il ic)∧w'.cell? ⟨w.heap.size,3,none⟩=some (.string out)∧w'.cell? ⟨w.heap.size,4,none⟩=some (.slice ao al cap)) (go_keep) (first | (go_at_call 37;refine (jeS S.length _ s3).mono ?_;rintro e w3 ⟨rfl,ho3,hg3⟩;have g3:w0.grownBy w3 none:=jaa (jaf G2.out) hg3;obtain ⟨n0,n1,n2,n3,n4⟩:=jai (n:=⟨op,nam,⟨ia,il,ic⟩,out,⟨ao,al,cap⟩⟩) (BX.out w3 (g3))) | (go_at_call 39;refine (NU.out _ _ S.length (jaa g0.out g3) (by have h:=ho3.ints (by rw [jbq];omega) (fun z hz=>by have:=jd9 hz;omega);rw [jbq] at h;exact h)).mono ?_;rintro e w4 ⟨axl,rfl,hax,hg4⟩;have g4:w0.grownBy w4 none:=jaa g3 hg4;obtain ⟨n0,n1,n2,n3,n4⟩:=jai (n:=⟨op,nam,⟨ia,il,ic⟩,out,⟨ao,al,cap⟩⟩) (BX.out w4 (g4))) | fail);obtain ⟨L,hL⟩ : ∃ L,L=A.ints ⟨#[97,120,101,115]⟩ (jb1 S.length):=⟨_,rfl⟩
 rw [← hL] at hax;obtain ⟨ax,ac,ae1,a1,a2,a3⟩:=hax.sl;obtain ⟨aa,an,av⟩:=axl;simp only [Sl.v,Value.slice.injEq] at ae1;obtain ⟨rfl,rfl,rfl⟩:=ae1;simp only [Sl.v] at hax ⊢;have HAX:=jac hax;have G4:=jac (jaa g0.out g4);have G24:Hid (w2.grownBy w4 none):=jaa (jaf (jae _)) (jaa hg3 hg4);have AX:=jac (jco ⟨aa,L.length,av⟩ L x.length w4 hax (by omega));simp only at AX;have E0:Hid (jbN A x=(jal (decide (S.length=E.length∧S.length=L.length))).bind (fun _=>(jbT L x.length).bind (fun _=>jbR x L S E x))):=by show _=_;rw [hL,HSx.out,HEx.out];rfl
 clear hax ho3 hg3 hg4 g3 g4 n0 n1 n2 n3 n4 NU HSx HEx hL
 by_cases l1:S.length=E.length
 ·have b1:((S.length:Int)==(E.length:Int))=true:=by simp [l1]
  by_cases l2:S.length=L.length
  ·have b2:((S.length:Int)==(L.length:Int))=true:=by simp [l2]
   have E1:Hid (jbN A x=(jbT L x.length).bind (fun _=>jbR x L S E x)):=by show _=_;rw [E0.out];simp [jal,l1,l2.symm.trans l1];rfl
   have L1:=jac l1;have L2:=jac l2;clear l1 l2
   cases hk:jbT L x.length with
   | error c =>
    rw [hk] at AX;have E2:Hid (jbN A x=.error c):=by show _=_;rw [E1.out,hk];rfl
    clear hk;go_wp2_with (first | (go_at_call 67;refine (jaq _).mono ?_;rintro e w' ⟨rfl,rfl⟩) | (go_at_call 87;refine AX.out.mono ?_;rintro e w' ⟨hg,rfl⟩) | fail);exact ⟨rfl,jah E2.out (jaa G4.out hg)⟩
   | ok gone =>
    rw [hk] at AX;have ALL:=jac (jhL hk);have E2:Hid (jbN A x=jbR x L S E x):=by show _=_;rw [E1.out,hk];rfl
    clear hk;go_wp2_with (first | (go_at_call 67;refine (jaq _).mono ?_;rintro e w' ⟨rfl,rfl⟩) | (go_at_call 87;refine AX.out.mono ?_;rintro e w5 ⟨hg5,v,rfl,B,rfl,-,-⟩) | (go_at_call 58;refine (CL.out w5 (jaa G4.out hg5)).mono ?_;rintro e w6 ⟨⟨qa,qn,qc⟩,rfl,ho,hg6⟩;simp only) | fail);have G5:=jac (jaa G4.out hg5);have G6:=jac (jaa (jaa G4.out hg5) hg6);have G46:=jac (jaa hg5 hg6);have HO:=jac (ho.base_le hg5.size);clear ho hg5 hg6 b1 b2 CL AX;go_loopw [44] (fun i wr=>∃ (k:Nat) (D:List Int),k≤L.length∧i=.int .i64 k∧Owns wr w4.heap.size (.slice qa qn qc) D∧D.length=x.length∧jbR x (L.drop k) (S.drop k) (E.drop k) D=jbR x L S E x∧(∀ z∈D,0≤z∧z≤65536)∧w4.grownBy wr none) (fun i _=>L.length - (intOf i).toNat)
    case atStart=>exact ⟨0,x,Nat.zero_le _,rfl,HO.out,rfl,by simp,fun z hz=>by have:=PB.out z hz;omega,G46.out⟩
    case round =>
     obtain ⟨k,D,hk,rfl,ho,hD,hst,hbd,hg⟩:=hrel;have HG:=jac hg;have HO1:=jac ho
     by_cases hkl:k<L.length
     ·obtain ⟨b,off,rfl,hc⟩:=HAX.out.get hkl;have hcell:wr.cell? ⟨b,off+k,none⟩=some (.int .i64 (L.getD k 0)):=jad (hc k hkl) hg;have hwfa:=HAX.out.wf (L.getD k 0) (by simp [List.getD,hkl]);have hsl:k<S.length:=by have:=L2.out;omega
      have hel:k<E.length:=by have:=L1.out;have:=L2.out;omega
      obtain ⟨b',off',rfl,hcs⟩:=HSS.out.get hsl;have hcs2:wr.cell? ⟨b',off'+k,none⟩=some (.int .i64 (S.getD k 0)):=jad (hcs k hsl) (jaa G24.out hg);have hwfs:=HSS.out.wf (S.getD k 0) (by simp [List.getD,hsl]);obtain ⟨b'',off'',rfl,hce⟩:=HES.out.get hel;have hce2:wr.cell? ⟨b'',off''+k,none⟩=some (.int .i64 (E.getD k 0)):=jad (hce k hel) (jaa G24.out hg);have hwfe:=HES.out.wf (E.getD k 0) (by simp [List.getD,hel]);obtain ⟨i,hi⟩:=ALL.out (L.getD k 0) (by simp [List.getD,hkl]);have hil:=jbw hi;obtain ⟨b3,off3,rfl,hcx⟩:=HX.out.get hil;have hcx2:wr.cell? ⟨b3,off3+i,none⟩=some (.int .i64 (x.getD i 0)):=jad (hcx i hil) (jaa G4.out hg);have hbx:=PB.out (x.getD i 0) (by simp [List.getD,hil]);rw [jiP hkl hsl hel] at hst;obtain ⟨a,ha0⟩ : ∃ a,a=L.getD k 0:=⟨_,rfl⟩
      obtain ⟨s,hs0⟩ : ∃ s,s=S.getD k 0:=⟨_,rfl⟩
      obtain ⟨t,ht0⟩ : ∃ t,t=E.getD k 0:=⟨_,rfl⟩
      obtain ⟨d,hd0⟩:=Int.eq_ofNat_of_zero_le (show 0≤x.getD i 0 by omega);have hax:jcl a x.length=.ok i:=by unfold jcl;rw [ha0,hi]
      rw [← ha0] at hcell hwfa hst;rw [← hs0] at hcs2 hwfs hst;rw [← ht0] at hce2 hwfe hst;rw [hax] at hst;rw [hd0] at hcx2 hbx
      have hst2:(jal (decide (jaM s d<jaM t d))).bind (fun _=>jbR x (L.drop (k+1)) (S.drop (k+1)) (E.drop (k+1)) (D.set i (jaM t d - jaM s d)))=jbR x L S E x:=by
       rw [← hst];show _=(jal _).bind _;rw [hd0,Int.toNat_natCast]
      have AO:=jac (fun wx=>jev a x.length wx (by omega) hwfa.1);rw [hax] at AO;have l1:=jff s d;have l2:=jff t d;obtain ⟨g,gcap,eo,hbg,hgl,hlc,hcm⟩:=ho.shape (by rw [hD];omega);simp only [Value.slice.injEq] at eo;obtain ⟨rfl,rfl,rfl⟩:=eo;have HDD:=jac hD;rw [hD] at hlc ⊢;clear hD;clear hc hcs hce hcx ha0 hs0 ht0 hd0 hst hi hax;go_wp2_with (first | (go_at_call 95;refine (AO.out _).mono ?_;rintro e w' ⟨-,v,rfl,rfl,rfl⟩) | fail)
      go_quiet (first | (go_at_call 43;refine (jfc _ _ _ (by omega) (by omega)).mono ?_;rintro e w' ⟨rfl,rfl⟩;exact ⟨rfl,_,rfl⟩) | fail)
      have gq:=jbb (jae wr) nq;have hoq:=ho.new gq;obtain ⟨cc,fc⟩:=hoq.cells (k:=i) (by rw [HDD.out];exact hil);have hq:=jaa hg gq;obtain ⟨wq,hwq⟩ : ∃ wq,wq=wr.drewN nq:=⟨_,rfl⟩
      rw [← hwq] at hoq cc fc hq ⊢;clear hwq gq hcell hcs2 hce2 hcx2;obtain ⟨p,hp0⟩ : ∃ p,p=jaM s d:=⟨_,rfl⟩
      obtain ⟨q,hq0⟩ : ∃ q,q=jaM t d:=⟨_,rfl⟩
      rw [← hp0] at hst2 l1 ⊢;rw [← hq0] at hst2 l2 ⊢;clear hp0 hq0
      by_cases hpq:p<q
      ·obtain ⟨so,sg⟩:=hoq.put i (q - p) (by omega);have SO:=jac so;have SG:=jac (jay hq sg hbg);have HST:Hid (jbR x (L.drop (k+1)) (S.drop (k+1)) (E.drop (k+1)) (D.set i (q - p))=jbR x L S E x):=by show _=_;rw [← hst2];simp [jal,hpq];rfl
       have HB:Hid (∀ z∈D.set i (q - p),0≤z∧z≤65536):=fun z hz=>by
        rcases List.mem_or_eq_of_mem_set hz with h1 | rfl
        ·exact hbd z h1
        ·omega
       clear hst2 hbd ho hoq hg hq so sg;go_wp2_with (first | (go_at_call 67;refine (jaq _).mono ?_;rintro e w' ⟨rfl,rfl⟩) | fail);go_roundw
       case rel=>exact ⟨k+1,_,by omega,by go_num,by have h:=SO.out;rw [HDD.out] at h;exact h,by rw [List.length_set];exact HDD.out,HST.out,HB.out,SG.out⟩
       case measure=>simp [intOf];omega
      ·have E3:Hid (jbN A x=.error 4):=by show _=_;rw [E2.out,← hst2];simp [jal,hpq];rfl
       have HQ:=jac hq;clear hst2 hbd ho hoq hg hq;go_wp2_with (first | (go_at_call 67;refine (jav _).mono ?_;rintro e w' ⟨rfl,rfl⟩) | fail);exact ⟨rfl,jah E3.out (jaa G4.out HQ.out)⟩
     ·have E3 : Hid (jbN A x = .ok D) := by
        show _=_;rw [E2.out,← hst,List.drop_of_length_le (l:=L) (by omega)];simp [jbR]
      clear hst hbd ho hg;go_wp2;go_ret;exact jap E3.out (jaa G4.out HG.out) ⟨⟨qa,qn,qc⟩,rfl,HO1.out.ints⟩
  ·have b2:((S.length:Int)==(L.length:Int))=false:=by simpa using (fun h=>l2 (by omega):¬ (S.length:Int)=L.length)
   have E1:Hid (jbN A x=.error 4):=by show _=_;rw [E0.out];simp [jal,l2];rfl
   clear l1 l2;go_wp2_with (first | (go_at_call 67;refine (jav _).mono ?_;rintro e w' ⟨rfl,rfl⟩) | fail);exact ⟨rfl,jah E1.out G4.out⟩
 ·have b1:((S.length:Int)==(E.length:Int))=false:=by simpa using (fun h=>l1 (by omega):¬ (S.length:Int)=E.length)
  have E1:Hid (jbN A x=.error 4):=by show _=_;rw [E0.out];simp [jal,l1];rfl
  clear l1;go_wp2_with (first | (go_at_call 67;refine (jav _).mono ?_;rintro e w' ⟨rfl,rfl⟩) | fail);exact ⟨rfl,jah E1.out G4.out⟩
end Go.Proofs.YtanpkdkenifmbaaGreatDoor
namespace Go.Proofs.YtanpkdkenifmbaaGreatDoor
open Go.RowKit
structure ValsIn (w:World) (v:Value) (vs:List (Val×List Int)):Prop where
 vals:jl3 w v (vs.map (·.1))
 dims:∀ p∈vs,IsInts w p.1.dv.v p.2
theorem ValsIn.more {w w':World} {v:Value} {vs:List (Val×List Int)} (h:ValsIn w v vs) (hg:w.grownBy w' none):ValsIn w' v vs:=⟨h.vals.more hg,fun p hp=>(h.dims p hp).more hg⟩
def ja1:List Int→R Int
 | []=>.ok 0
 | t::l=>if l.all (fun s=>s==t)=true then .ok t else .error 4
theorem jbr (u:Sl) (vs:List (Val×List Int)) (w:World) (hv:ValsIn w u.v vs) (hp:0<vs.length) (hf:vs.length≤1000000):Calls Tryz.prog 84 #[.slice u.a u.n u.c] w (jaH w (ja1 (vs.map (·.1.ty))) fun t v _=>v=.int .i64 t):=by
 obtain ⟨xa,xc,e1,p1,p2,p3⟩:=hv.vals.form;rw [List.length_map] at e1 p1 p3;obtain ⟨ua,un,uc⟩:=u;simp only [Sl.v,Value.slice.injEq] at e1;obtain ⟨rfl,rfl,rfl⟩:=e1;have HV:=jac hv.vals;have hl:(vs.map (·.1)).length=vs.length:=by simp
 obtain ⟨b,off,rfl⟩:=hv.vals.addr (k:=0) (by rw [hl];exact hp);obtain ⟨z0,z1,z2⟩:=hv.vals.val 0 (by rw [hl];exact hp);rw [Nat.zero_mul,Nat.add_zero,List.getElem_map] at z1;obtain ⟨T,hT⟩ : ∃ T,T=vs[0].1.ty:=⟨_,rfl⟩
 rw [← hT] at z1;have Z1:=jac z1;have HT:=jac hT;clear hv z0 z1 z2 hT;go_enter Tryz.func84,Tryz.ntmps84;go_wp2;go_loopw [7] (fun i wr=>∃ k:Nat,k≤vs.length∧i=.int .i64 k∧(∀ j (hj:j<vs.length),j<k→vs[j].1.ty=T)∧w.grownBy wr none) (fun i _=>vs.length - (intOf i).toNat)
 case atStart=>exact ⟨0,Nat.zero_le _,rfl,fun j hj h=>absurd h (by omega),jae _⟩
 case round =>
  obtain ⟨k,hk,rfl,hall,hg⟩:=hrel;have HA:=jac hall;have HG:=jac hg
  by_cases hkl:k<vs.length
  ·have h2:=HV.out.more hg;obtain ⟨y0,y1,y2⟩:=h2.val k (by rw [hl];exact hkl);rw [List.getElem_map] at y0 y1 y2;have z1:wr.cell? ⟨b,off+1,none⟩=some (.int .i64 T):=jad Z1.out hg;have HK:Hid (vs[k].1.ty=vs[k].1.ty):=rfl;obtain ⟨v,hvv⟩ : ∃ v,v=vs[k].1:=⟨_,rfl⟩
   rw [← hvv] at y0 y1 y2 HK;obtain ⟨vn,vt,⟨da,dn,dc⟩⟩:=v;simp only at y0 y1 y2;have HVV:=jac hvv;obtain ⟨w1,hw1⟩ : ∃ w1,w1=wr.alloc (.cells #[.string vn,.int .i64 vt,.slice da dn dc] 43):=⟨_,rfl⟩
   have g1:Hid (w.grownBy w1 none):=by show w.grownBy w1 none;rw [hw1];exact jaa hg (jab _ _)
   have hb1:=heap_alloc_new wr (.cells #[.string vn,.int .i64 vt,.slice da dn dc] 43);rw [← hw1] at hb1;have q1:w1.cell? ⟨wr.heap.size,1,none⟩=some (.int .i64 vt):=(cell_of_row _ _ 1 _ _ (0,0) hb1).trans rfl;have z1':w1.cell? ⟨b,off+1,none⟩=some (.int .i64 T):=jad Z1.out g1.out;clear hb1 hvv hall hg h2;go_wp2_with fail;rw [← hw1];clear hw1 y0 y1 y2 z1;have hp':(0:Int)<(vs.length:Int):=by omega
   by_cases hd:vt=T
   ·have bd:(vt==T)=true:=by simp [hd]
    go_quiet (first | (go_at_call 67;refine (jaq _).mono ?_;rintro e w' ⟨rfl,rfl⟩;exact ⟨rfl,_,rfl⟩) | fail)
    have HKT:Hid (∀ j (hj:j<vs.length),j<k+1→vs[j].1.ty=T):=fun j hj h=>by
     rcases jaL h with h | rfl
     ·exact HA.out j hj h
     ·rw [← HVV.out];exact hd
    clear hd bd;go_wp2_with fail;go_roundw
    case rel=>exact ⟨k+1,by omega,by go_num,HKT.out,⟨g1.out.os,g1.out.tape,g1.out.output,g1.out.size,g1.out.block⟩⟩
    case measure=>simp [intOf];omega
   ·have bd:(vt==T)=false:=by simpa using hd
    have E:Hid (ja1 (vs.map (·.1.ty))=.error 4):=by
     show _=_
     cases vs with
     | nil=>simp at hp
     | cons p l =>
      have hT2:T=p.1.ty:=HT.out;simp only [List.map_cons,ja1];rw [if_neg];intro h;rw [List.all_eq_true] at h
      cases k with
      | zero=>exact hd (by have:=HVV.out;simp at this;rw [hT2,← this])
      | succ k =>
       have h3:k<l.length:=by simpa using hkl
       have:=h (l[k].1.ty) (List.mem_map.2 ⟨l[k],List.getElem_mem h3,rfl⟩);refine hd ?_;have h4:=HVV.out;simp only [List.getElem_cons_succ] at h4;rw [hT2,← beq_iff_eq.1 this,← h4]
    clear hd;refine wp_region_held_drew (S:=(fun w'=>w'.cell? ⟨wr.heap.size,1,none⟩=some (.int .i64 vt)∧w'.cell? ⟨b,off+1,none⟩=some (.int .i64 T))) (by kernel_rfl) (by go_keep) (fun hHeld=>?_);refine tkA 0 ?_
    try simp only [Act.put]
    refine tkA 1 ?_
    try simp only [Act.put]
    refine tkA 2 ?_
    try simp only [Act.put]
    refine tkA 3 ?_
    try simp only [Act.put]
    refine tkA 4 ?_
    try simp only [Act.put]
    refine tkA 5 ?_
    try simp only [Act.put]
    refine tkA 6 ?_
    try simp only [Act.put]
    refine rdA 7 fun K hK=>?_;go_simp;refine (jav _).mono ?_;rintro e wy ⟨rfl,rfl⟩;exact ⟨rfl,jah E.out (jaf g1.out)⟩
  ·have E : Hid (ja1 (vs.map (·.1.ty)) = .ok T) := by
     show _=_
     cases vs with
     | nil=>simp at hp
     | cons p l =>
      have hT2:T=p.1.ty:=HT.out;simp only [List.map_cons,ja1];rw [if_pos,hT2];rw [List.all_eq_true];intro s hs;obtain ⟨q,hq,rfl⟩:=List.mem_map.1 hs;obtain ⟨j,hj,rfl⟩:=List.mem_iff_getElem.1 hq;have:=HA.out (j+1) (by simpa using hj) (by simp at hkl ⊢;omega);simp only [List.getElem_cons_succ] at this;simp [this,hT2]
   have z1:wr.cell? ⟨b,off+1,none⟩=some (.int .i64 T):=jad Z1.out hg;have hp':(0:Int)<(vs.length:Int):=by omega
   clear hall hg;go_wp2;go_ret;exact jap E.out HG.out rfl
end Go.Proofs.YtanpkdkenifmbaaGreatDoor
