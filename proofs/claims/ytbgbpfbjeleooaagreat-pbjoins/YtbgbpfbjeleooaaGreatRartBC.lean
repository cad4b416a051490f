/- A part. -/
import Derived.Test.YtbgbpfbjeleooaaGreatRartBB
import Derived.Maps.AppendAt
set_option maxHeartbeats 3200000
set_option maxRecDepth 100000
namespace Go.Proofs.YtbgbpfbjeleooaaGreat.Wr
open Go.RowKit
def jfF (w w':World) (v v':Value):Prop:=w.grownBy w' v.ownBlock∧(v'.ownBlock=v.ownBlock∨∃ g,v'.ownBlock=some g∧w.heap.size≤g)
theorem jfF.refl (w:World) (v:Value):jfF w w v v:=⟨World.grownBy.refl _ _,.inl rfl⟩
theorem jfF.new (w:World) (o:Obj) (v:Value):jfF w (w.alloc o) v v:=⟨World.grownBy_alloc w o _,.inl rfl⟩
theorem jfF.more {w w':World} (h:w.grownBy w' none) (v:Value):jfF w w' v v:=⟨row_of_none _ h,.inl rfl⟩
theorem jfF.trans {a b c:World} {u v x:Value} (h:jfF a b u v) (k:jfF b c v x):jfF a c u x:=by
 obtain ⟨h1,h2⟩:=h;obtain ⟨k1,k2⟩:=k;refine ⟨⟨k1.os.trans h1.os,k1.tape.trans h1.tape,k1.output.trans h1.output,Nat.le_trans h1.size k1.size,fun i hi hne=>?_⟩,?_⟩
 ·refine (k1.block i (Nat.lt_of_lt_of_le hi h1.size) (fun e=>?_)).trans (h1.block i hi hne)
  rcases h2 with h2 | ⟨g,h2,hg⟩
  ·exact hne (e.trans h2)
  ·rw [h2] at e;cases e;omega
 ·rcases k2 with k2 | ⟨g,k2,hg⟩
  ·rcases h2 with h2 | ⟨g,h2,hg⟩
   ·exact .inl (k2.trans h2)
   ·exact .inr ⟨g,k2.trans h2,hg⟩
  ·exact .inr ⟨g,k2,Nat.le_trans h1.size hg⟩
theorem jfF.below {α:Type} {te:TypeId} {size:Nat} {f:α→List Value} {w w':World} {base:Nat} {v v':Value} {xs:List α} (h:jfF w w' v v') (ho:OwnsL te size f w base v xs) (hb:base≤w.heap.size):Below base w w':=je5 ho hb h.1
theorem jd4 {α : Type} {ops : Array Oper} {rest : List Oper} {o : Oper} {a : Act} {w : World} {Q : Exit → Act → World → Prop} (hgd : o.guard = none) (s x : Operand) (t te : TypeId) (size bytes : Nat) (z : Value) (i0 : TypeInfo) (f : α → List Value)
    (ho:o.op=.call { callee:=.builtin .append,args:=#[s,x],argTypes:=#[t,t] }) (ht:Tryz.prog.underlying t=some (.slice te)) (hi:Tryz.prog.info? te=some i0) (hz:i0.zero=some z)
    (hsize:i0.size=size) (hby:i0.bytes=bytes) (hzs:z.cells.size=size) (hsz:0<size) (base:Nat) (v:Value) (xs:List α) (hs:a.eval s=v) (hown:OwnsL te size f w base v xs)
    (B c:Nat) (y:α) (cs:Array Value) (hx:a.eval x=.slice (some ⟨B,0,none⟩) 1 c) (hB:w.heap[B]?=some (.cells cs te (0,0))) (hcs:cs.toList=f y) (hl:(f y).length=size) (h1:∀ u∈f y,u.oneCell'=true)
    (hbytes:(xs.length+1)*bytes≤140737488355328) (h63:xs.length+1≤maxLen) (hbase:base≤w.heap.size)
    (h:∀ v' w',OwnsL te size f w' base v' (xs++[y])→jfF w w' v v'→wpList Tryz.prog ops Q rest (a.put o.dst v') w'):wpList Tryz.prog ops Q (o::rest) a w:=by
     refine wpList_append_own_at w hgd s x t ho base te i0 z size bytes ht hi hz hsize hby hzs hsz v _ _ hs hown ⟨B,0,none⟩ 1 c (f y) hx (by omega) ?_ h1 h63 hbytes hbase ?_
     ·intro j u hu;rw [Addr.add_lit,cell_of_row _ _ _ _ _ (0,0) hB];rw [← hcs] at hu;simpa using hu
     ·intro v' w' ho' hg _ hat;refine h v' w' ?_ ⟨hg,hat.imp id fun e=>⟨_,e,Nat.le_refl _⟩⟩;unfold OwnsL;simpa [List.flatMap_append] using ho'
theorem jcE (v0:Value) (xs0:List Nat) (u:Nat) (base:Nat) (w:World) (h:OwnsB w base v0 xs0) (hb:base≤w.heap.size) (hu:u<18446744073709551616) (hl:xs0.length≤1099511627776) :
    Calls Tryz.prog 151 #[v0,.int .u64 u] w fun e w'=>∃ v',e=.returned v'∧OwnsB w' base v' (xs0++vb u)∧jfF w w' v0 v':=by
     obtain ⟨i0,hi,hz0,hz1,hz2⟩:=info_parts infoByte;obtain ⟨ao0,cap0,rfl⟩:=h.form;go_enter Tryz.func151,Tryz.ntmps151;go_wp2;go_loopg [0,1] 10 (fun f b x wr=>∃ v U xs,b=v∧x=.int .u64 (U:Nat)∧U<18446744073709551616∧VI xs0 u f U xs∧OwnsB wr base v xs∧jfF w wr (.slice ao0 xs0.length cap0) v)
     case atStart=>exact ⟨_,u,xs0,rfl,rfl,hu,VI.start _ _ hu,h,jfF.refl _ _⟩
     case round =>
      obtain ⟨v,U,xs,rfl,rfl,hU,hvi,hown,hrk⟩:=hrel;have hsz:=hrk.1.size;have HR:=jac hrk;clear hrk;obtain ⟨ao,cap,rfl⟩:=hown.form;have HV:=jac hvi;have HO:=jac hown;have hlen:=hvi.len;clear hvi hown h
      by_cases hsm:U<128
      ·go_wp2_with (at_builtin;refine jd4 rfl (.tmp 15) (.tmp 18) 84 5 1 1 _ i0 bcells rfl Tryz.underlying84 hi hz0 hz1 hz2 rfl (by decide) base _ xs rfl (by exact HO.out.more (jab wr _)) wr.heap.size 1 U _ rfl (by exact jc0 _ _ _ rfl) rfl rfl (bcells_one U) (by omega) (by simp only [maxLen];omega) (by simp;omega) ?_;intro v' w5 hown5 hrk5);go_ret;exact ⟨_,rfl,by rw [HV.out.done hsm];exact hown5,HR.out.trans ((jfF.new wr _ _).trans hrk5)⟩
      ·have hm : bits .or .u8 ((U : Int) % 256) 128 = (U : Int) % 128 + 128 := by
         have h1:=joa (U % 256) (by omega);have e:U % 256 % 128=U % 128:=by omega
         rw [e] at h1;simpa using h1
       go_wp2_with (at_builtin;refine jd4 rfl (.tmp 7) (.tmp 11) 84 5 1 1 _ i0 bcells rfl Tryz.underlying84 hi hz0 hz1 hz2 rfl (by decide) base _ xs rfl (by exact HO.out.more (jab wr _)) wr.heap.size 1 (U % 128+128) _ rfl (by exact jc0 _ _ _ rfl) (by simp [bcells]) rfl (bcells_one _) (by omega) (by simp only [maxLen];omega) (by simp;omega) ?_;intro v' w5 hown5 hrk5);have hp:=HV.out.pos hsm;go_roundg (gk - 1)
       case measure=>omega
       case rel=>exact ⟨v',U / 128,_,rfl,by simp,by omega,HV.out.next hsm,hown5,HR.out.trans ((jfF.new wr _ _).trans hrk5)⟩
theorem jdP (v0:Value) (xs0:List Nat) (u n:Nat) (base:Nat) (w:World) (h:OwnsB w base v0 xs0) (hb:base≤w.heap.size) (hn:n≤8) (hl:xs0.length≤1099511627776) :
    Calls Tryz.prog 152 #[v0,.int .u64 u,.int .i64 n] w fun e w'=>∃ v',e=.returned v'∧OwnsB w' base v' (xs0++lo u n)∧jfF w w' v0 v':=by
     obtain ⟨i0,hi,hz0,hz1,hz2⟩:=info_parts infoByte;obtain ⟨ao0,cap0,rfl⟩:=h.form;go_enter Tryz.func152,Tryz.ntmps152;go_wp2;go_loopg [0,9] n (fun f b i wr=>∃ k v xs,f=n - k∧k≤n∧b=v∧i=.int .i64 (k:Nat)∧xs.length=xs0.length+k∧xs0++lo u n=xs++lo (u / 256 ^ k) (n - k)∧OwnsB wr base v xs∧jfF w wr (.slice ao0 xs0.length cap0) v)
     case atStart=>exact ⟨0,_,xs0,rfl,Nat.zero_le _,rfl,rfl,rfl,by simp,h,jfF.refl _ _⟩
     case round =>
      obtain ⟨k,v,xs,rfl,hk,rfl,rfl,hlen,heq,hown,hrk⟩:=hrel;have hsz:=hrk.1.size;have HR:=jac hrk;clear hrk;obtain ⟨ao,cap,rfl⟩:=hown.form;have HE:=jac heq;have HO:=jac hown;have HL:=jac hlen;have hl2:xs.length≤xs0.length+8:=by omega
      clear heq hown h hlen
      by_cases hlt:k<n
      ·go_wp2_with (at_builtin;refine jd4 rfl (.tmp 12) (.tmp 18) 84 5 1 1 _ i0 bcells rfl Tryz.underlying84 hi hz0 hz1 hz2 rfl (by decide) base _ xs rfl (by exact HO.out.more (jab wr _)) wr.heap.size 1 (u / 256 ^ k % 256) _ rfl (by exact jc0 _ _ _ rfl) (by rw [jmk u k];rfl) rfl (bcells_one _) (by omega) (by simp only [maxLen];omega) (by simp;omega) ?_;intro v' w5 hown5 hrk5);go_roundg (n - (k+1))
       case measure=>omega
       case rel=>exact ⟨k+1,v',_,rfl,by omega,rfl,by go_num,by simp [HL.out];omega,by rw [HE.out,jnz u k n hlt];simp,hown5,HR.out.trans ((jfF.new wr _ _).trans hrk5)⟩
      ·obtain rfl:k=n:=by omega
       go_wp2;go_ret;refine ⟨_,rfl,?_,HR.out⟩;rw [HE.out];simpa [lo] using HO.out
end Go.Proofs.YtbgbpfbjeleooaaGreat.Wr
namespace Go.Proofs.YtbgbpfbjeleooaaGreat.Wr
open Go.RowKit
theorem jiR (s:ByteArray):Lib.strCells s=(bytesOf s).flatMap bcells:=by
 rw [jgj];unfold bytesOf Lib.strCells;rw [List.map_map]
 rfl
theorem jgl (v0:Value) (xs0:List Nat) (x:Fld) (base:Nat) (w:World) (h:OwnsB w base v0 xs0) (hb:base≤w.heap.size) (hx:fok x=true) (hin:FldIn x) (hl:xs0.length+x.b.size≤1099511627000) :
    Calls Tryz.prog 130 #[v0,jcH x] w fun e w'=>∃ v',e=.returned v'∧OwnsB w' base v' (xs0++fb x)∧Below base w w'∧w.heap.size≤w'.heap.size:=by
     obtain ⟨i0,hi,hz0,hz1,hz2⟩:=info_parts infoByte;have T:=jac (fun wx=>jk7 x wx hx);have tl:=jk3 hx;have A1:=jac (fun wx hw hz=>jcE v0 xs0 (jc9 x) base wx hw hz (by omega) (by omega));have b1:=vbF_len 10 (jc9 x);change 1≤(vb (jc9 x)).length∧(vb (jc9 x)).length≤11 at b1;have hk:=jdK hx;obtain ⟨h1,h2,h3,h4,h5,h6,h7⟩:=hin;have hfb:Hid (fb x=vb (jc9 x)++jby x):=rfl;obtain ⟨T0,hT0⟩ : ∃ T0,T0=vb (jc9 x):=⟨_,rfl⟩
     rw [← hT0] at A1 b1 hfb;obtain ⟨ao,cap,rfl⟩:=h.form;have H0:=jac h;have hlen:xs0.length+T0.length≤1099511627711:=by omega
     obtain ⟨num,kind,u,b⟩:=x;obtain ⟨m,rfl⟩ : ∃ m:Nat,u=m:=⟨u.toNat,by simp only at h5;omega⟩
     have hm:m<18446744073709551616:=by simp only at h6;omega
     simp only [jcH] at *;clear tl hT0 h1 h2 h3 h4 h h5 h6
     rcases hk with ⟨rfl,hb'⟩ | ⟨rfl,hb'⟩ | ⟨rfl,hb',hu⟩ | ⟨rfl,hu⟩
     ·go_enter Tryz.func130,Tryz.ntmps130;go_wp2_with fail;refine (T.out _).mono ?_;rintro e w1 ⟨rfl,g1⟩;go_wp2_with fail;have G1:=jaa (jab _ _) g1;refine (A1.out _ (H0.out.more G1) (Nat.le_trans hb G1.size)).mono ?_;rintro e w2 ⟨v2,rfl,o2,rk2⟩;have q1:=(g1.block _ (by simp) (by simp)).trans (heap_alloc_new w _);have hlt1:w.heap.size<w1.heap.size:=World.block_lt_of_cell? w1 ⟨w.heap.size,0,none⟩ (jfS q1).1;have q2:=(rk2.1.block _ hlt1 (fun e=>by have:=World.ownsRow.lt H0.out _ e.symm;omega)).trans q1;obtain ⟨c0,c1,c2,c3,-,-,-,-⟩:=jfS q2;obtain ⟨Y,hY⟩ : ∃ Y,Y=xs0++T0:=⟨_,rfl⟩
      rw [← hY] at o2;have hYl:Y.length≤xs0.length+11:=by rw [hY,List.length_append];omega
      have HY:=jac hY;clear hY;obtain ⟨ao2,cap2,rfl⟩:=o2.form;have O2:=jac o2;have R2:=jac ((jfF.more G1 _).trans rk2);have R12:=jac rk2;have Q2:=jac q2;have z2:=rk2.1.size;clear o2 rk2 q1 q2;have A2:=jac (jcE _ _ m base w2 O2.out (by omega) hm (by omega));go_wp2_with fail;refine A2.out.mono ?_;rintro e w3 ⟨v3,rfl,o3,rk3⟩;go_wp2;go_ret;have R3:=R2.out.trans rk3;refine ⟨_,rfl,?_,R3.below H0.out hb,R3.1.size⟩;rw [hfb.out,← List.append_assoc,← HY.out];simpa [jby] using o3
     ·go_enter Tryz.func130,Tryz.ntmps130;go_wp2_with fail;refine (T.out _).mono ?_;rintro e w1 ⟨rfl,g1⟩;go_wp2_with fail;have G1:=jaa (jab _ _) g1;refine (A1.out _ (H0.out.more G1) (Nat.le_trans hb G1.size)).mono ?_;rintro e w2 ⟨v2,rfl,o2,rk2⟩;have q1:=(g1.block _ (by simp) (by simp)).trans (heap_alloc_new w _);have hlt1:w.heap.size<w1.heap.size:=World.block_lt_of_cell? w1 ⟨w.heap.size,0,none⟩ (jfS q1).1;have q2:=(rk2.1.block _ hlt1 (fun e=>by have:=World.ownsRow.lt H0.out _ e.symm;omega)).trans q1;obtain ⟨c0,c1,c2,c3,-,-,-,-⟩:=jfS q2;obtain ⟨Y,hY⟩ : ∃ Y,Y=xs0++T0:=⟨_,rfl⟩
      rw [← hY] at o2;have hYl:Y.length≤xs0.length+11:=by rw [hY,List.length_append];omega
      have HY:=jac hY;clear hY;obtain ⟨ao2,cap2,rfl⟩:=o2.form;have O2:=jac o2;have R2:=jac ((jfF.more G1 _).trans rk2);have R12:=jac rk2;have Q2:=jac q2;have z2:=rk2.1.size;clear o2 rk2 q1 q2;have A2:=jac (jdP _ _ m 8 base w2 O2.out (by omega) (by omega) (by omega));go_wp2_with fail;refine A2.out.mono ?_;rintro e w3 ⟨v3,rfl,o3,rk3⟩;go_wp2;go_ret;have R3:=R2.out.trans rk3;refine ⟨_,rfl,?_,R3.below H0.out hb,R3.1.size⟩;rw [hfb.out,← List.append_assoc,← HY.out];simpa [jby] using o3
     ·go_enter Tryz.func130,Tryz.ntmps130;go_wp2_with fail;refine (T.out _).mono ?_;rintro e w1 ⟨rfl,g1⟩;go_wp2_with fail;have G1:=jaa (jab _ _) g1;refine (A1.out _ (H0.out.more G1) (Nat.le_trans hb G1.size)).mono ?_;rintro e w2 ⟨v2,rfl,o2,rk2⟩;have q1:=(g1.block _ (by simp) (by simp)).trans (heap_alloc_new w _);have hlt1:w.heap.size<w1.heap.size:=World.block_lt_of_cell? w1 ⟨w.heap.size,0,none⟩ (jfS q1).1;have q2:=(rk2.1.block _ hlt1 (fun e=>by have:=World.ownsRow.lt H0.out _ e.symm;omega)).trans q1;obtain ⟨c0,c1,c2,c3,-,-,-,-⟩:=jfS q2;obtain ⟨Y,hY⟩ : ∃ Y,Y=xs0++T0:=⟨_,rfl⟩
      rw [← hY] at o2;have hYl:Y.length≤xs0.length+11:=by rw [hY,List.length_append];omega
      have HY:=jac hY;clear hY;obtain ⟨ao2,cap2,rfl⟩:=o2.form;have O2:=jac o2;have R2:=jac ((jfF.more G1 _).trans rk2);have R12:=jac rk2;have Q2:=jac q2;have z2:=rk2.1.size;clear o2 rk2 q1 q2;have A2:=jac (jdP _ _ m 4 base w2 O2.out (by omega) (by omega) (by omega));go_wp2_with fail;refine A2.out.mono ?_;rintro e w3 ⟨v3,rfl,o3,rk3⟩;go_wp2;go_ret;have R3:=R2.out.trans rk3;refine ⟨_,rfl,?_,R3.below H0.out hb,R3.1.size⟩;rw [hfb.out,← List.append_assoc,← HY.out];simpa [jby] using o3
     ·clear hu;go_enter Tryz.func130,Tryz.ntmps130;go_wp2_with fail;refine (T.out _).mono ?_;rintro e w1 ⟨rfl,g1⟩;go_wp2_with fail;have G1:=jaa (jab _ _) g1;refine (A1.out _ (H0.out.more G1) (Nat.le_trans hb G1.size)).mono ?_;rintro e w2 ⟨v2,rfl,o2,rk2⟩;have q1:=(g1.block _ (by simp) (by simp)).trans (heap_alloc_new w _);have hlt1:w.heap.size<w1.heap.size:=World.block_lt_of_cell? w1 ⟨w.heap.size,0,none⟩ (jfS q1).1;have q2:=(rk2.1.block _ hlt1 (fun e=>by have:=World.ownsRow.lt H0.out _ e.symm;omega)).trans q1;obtain ⟨c0,c1,c2,c3,-,-,-,-⟩:=jfS q2;obtain ⟨Y,hY⟩ : ∃ Y,Y=xs0++T0:=⟨_,rfl⟩
      rw [← hY] at o2;have hYl:Y.length≤xs0.length+11:=by rw [hY,List.length_append];omega
      have HY:=jac hY;clear hY;obtain ⟨ao2,cap2,rfl⟩:=o2.form;have O2:=jac o2;have R2:=jac ((jfF.more G1 _).trans rk2);have R12:=jac rk2;have Q2:=jac q2;have z2:=rk2.1.size;clear o2 rk2 q1 q2;have A2:=jac (jcE _ _ b.size base w2 O2.out (by omega) (by omega) (by omega));go_wp2_with fail;refine A2.out.mono ?_;rintro e w3 ⟨v3,rfl,o3,rk3⟩;obtain ⟨Z,hZ⟩ : ∃ Z,Z=Y++vb b.size:=⟨_,rfl⟩
      rw [← hZ] at o3;have b3:=vbF_len 10 b.size;change 1≤(vb b.size).length∧(vb b.size).length≤11 at b3;have hZl:Z.length≤xs0.length+22:=by rw [hZ,List.length_append];omega
      have HZ:=jac hZ;clear hZ b3;have hlt2:w.heap.size<w2.heap.size:=by omega
      have q3:=(rk3.1.block _ hlt2 (fun e=>?_)).trans Q2.out
      ·obtain ⟨d0,d1,d2,d3,-,-,-,-⟩:=jfS q3;obtain ⟨ao3,cap3,rfl⟩:=o3.form;have O3:=jac o3;have R3:=jac (R2.out.trans rk3);have z3:=rk3.1.size;clear o3 rk3 q3 c0 c1 c2 c3;go_wp2_with (at_builtin;refine Lib.wpList_append_own_string _ rfl (.tmp 35) (.tmp 37) 84 9 rfl base 5 i0 Tryz.underlying84 Tryz.underlying9 hi hz0 hz1 hz2 _ _ _ rfl O3.out b rfl ?_ ?_ ?_ ?_;(simp only [maxLen];omega);omega;omega;intro v4 w4 o4 g4 _);go_ret;refine ⟨_,rfl,?_,(R3.out.below H0.out hb).trans (je5 O3.out (by omega) g4),by have:=R3.out.1.size;have:=g4.size;omega⟩;have e:xs0++fb ⟨num,2,m,b⟩=Z++bytesOf b:=by rw [hfb.out,HZ.out,HY.out];simp [jby]
       rw [e];unfold OwnsB OwnsL;rw [jiR] at o4;rw [List.flatMap_append,List.length_append,jcm];exact o4
      ·have h0:=World.ownsRow.lt H0.out
       rcases R12.out.2 with h1 | ⟨g,h1,hg⟩
       ·have:=h0 _ (h1.symm.trans e.symm);omega
       ·rw [h1] at e
        cases e
        omega
end Go.Proofs.YtbgbpfbjeleooaaGreat.Wr
