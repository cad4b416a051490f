/- A part. -/
import Derived.Test.YtekocmdfaaoggaaGreatDoorTartBD
import Derived.Test.YtekocmdfaaoggaaGreatDoorTartAX
import Derived.Deep.AppendLies
import Derived.Test.YtekocmdfaaoggaaGreatDoorTartBE
import Derived.Test.YtekocmdfaaoggaaGreatDoorTartAJ
import Derived.Test.YtekocmdfaaoggaaGreatDoorTartAP
set_option maxHeartbeats 8000000
set_option maxRecDepth 100000
namespace Go.Proofs.YtekocmdfaaoggaaGreatDoor
open Go.RowKit
structure Blk (w:World) (v:Value) (rs:List (Sl×List Int)) (k:Nat):Prop where
 cols:jru w v (rs.map (·.1))
 has:∀ r∈rs,jak w r.1.v r.2∧r.2.length=k
theorem Blk.more {w w':World} {v:Value} {rs:List (Sl×List Int)} {k:Nat} (h:Blk w v rs k) (hg:w.grownBy w' none):Blk w' v rs k:=⟨h.cols.more hg,fun r hr=>⟨(h.has r hr).1.more hg,(h.has r hr).2⟩⟩
theorem Blk.sl {w:World} {v:Value} {rs:List (Sl×List Int)} {k:Nat} (h:Blk w v rs k):∃ a c,v=.slice a rs.length c∧rs.length≤c∧c≤9223372036854775807:=by
 obtain ⟨a,c,e,h1,h2,-⟩:=h.cols.form;rw [List.length_map] at e h1;exact ⟨a,c,e,h1,h2⟩
theorem Blk.row {w:World} {ao:Option Addr} {n c:Nat} {rs:List (Sl×List Int)} {k:Nat} (h:Blk w (.slice ao n c) rs k) {i:Nat} (hi:i<rs.length):∃ b off,ao=some ⟨b,off,none⟩∧w.cell? ⟨b,off+i,none⟩=some (.slice rs[i].1.a rs[i].1.n rs[i].1.c):=by
 obtain ⟨b,off,rfl⟩:=h.cols.addr (k:=i) (by rw [List.length_map];exact hi);have hc:=h.cols.at i (by rw [List.length_map];exact hi) 0 (by omega);rw [List.getElem_map] at hc;exact ⟨b,off,rfl,by simpa [jpK] using hc⟩
theorem jdk {w:World} {base:Nat} {v:Value} {zs:List Int} {z:Int} {n:Nat} (hn:zs.length=n) (h:w.ownsRow base 2 1 v (n+1) (zs.map (Value.int .i64)++[Value.int .i64 z])) (hl:n≤1000000) (hz:∀ y∈zs,-9223372036854775808≤y∧y≤9223372036854775807) (hz' : -9223372036854775808≤z∧z≤9223372036854775807):jaT w base v (zs++[z]):=by
 subst hn;refine ⟨by rw [List.length_append,List.map_append];exact h,by rw [List.length_append,List.length_singleton];omega,fun y hy=>?_⟩
 rcases List.mem_append.1 hy with hy | hy
 ·exact hz y hy
 ·rw [List.mem_singleton.1 hy];exact hz'
theorem jeI {w:World} {base n:Nat} {v:Value} {zs:List Int} (h:jaT w base v zs) (hn:zs.length=n):w.ownsRow base 2 1 v n (zs.map (Value.int .i64)):=by
 subst hn;exact h.1
theorem jft (z:Int):∀ u∈[Value.int .i64 z],u.oneCell'=true:=by
 intro u hu;rw [List.mem_singleton.1 hu]
 rfl
end Go.Proofs.YtekocmdfaaoggaaGreatDoor
namespace Go.Proofs.YtekocmdfaaoggaaGreatDoor
open Go.RowKit
theorem jci (n:Nod) (A:At) (u:Sl) (x:List Int) (gone:List Bool) (w:World) (hn:NodeOk w n A) (hx:jak w u.v x) (hf:Fine x) (hax:jbD x.length (jaQ A x.length) (List.replicate x.length false)=some gone) (hgl:gone.length=x.length) :
    Calls Tryz.prog 26 #[jax n,.slice u.a u.n u.c] w fun e w'=>∃ (base Bw:Nat) (rs:List Sl),w.heap.size≤base∧e=.returned (.slice (some ⟨Bw,0,none⟩) (jbA x gone) (jbA x gone))∧Gr w' base Bw (jbA x gone) (jh5 (plF x gone [0]) (jbA x gone) (plF x gone [0]).length) rs∧w.grownBy w' none:=by
     obtain ⟨i0,hi0,hz0,hz1,hz2⟩:=info_parts jeM;obtain ⟨j0,hj0,jz0,jz1,jz2⟩:=info_parts jmY;obtain ⟨ux,uc,eu,c1,c2,c3⟩:=hx.sl;obtain ⟨ua,un,uu⟩:=u;simp only [Sl.v,Value.slice.injEq] at eu;obtain ⟨rfl,rfl,rfl⟩:=eu;have HX:=jac hx;have FEW:=hf.few;have HF:=jac hf;have HGL:=jac hgl;have PLS:Hid (∀ k,Pls (x.take k) (gone.take k)∧jbe (x.take k)≤65536):=fun k=>⟨jdD (min k x.length) _ _ (by rw [List.length_take]) (by rw [List.length_take,HGL.out]) (fun z hz=>HF.out.pos z (List.mem_of_mem_take hz)),Int.le_trans (jc0 (fun z hz=>HF.out.pos z hz) k) HF.out.le⟩
     clear hx hf hgl;have NK:=jac hn;obtain ⟨op,nam,⟨ia,il,ic⟩,out,⟨ao,al,cap⟩⟩:=n;unfold jax;simp only;obtain ⟨w0,hw0⟩ : ∃ w0,w0=w.alloc (.cells #[.string op,.string nam,.slice ia il ic,.string out,.slice ao al cap] 25):=⟨_,rfl⟩
     have g0:Hid (w.grownBy w0 none):=by show w.grownBy w0 none;rw [hw0];exact jab _ _
     have hb0:=heap_alloc_new w (.cells #[.string op,.string nam,.slice ia il ic,.string out,.slice ao al cap] 25);rw [← hw0] at hb0;have BX:Hid (∀ wx,w0.grownBy wx none→wx.heap[w.heap.size]?=some (.cells #[.string op,.string nam,.slice ia il ic,.string out,.slice ao al cap] 25 (0,0))):=fun wx hg=>jaf hb0 hg;clear hb0 hn;have AL:=jac (je0 ⟨op,nam,⟨ia,il,ic⟩,out,⟨ao,al,cap⟩⟩ A x.length w0 (NK.out.more g0.out) (by omega));unfold jax at AL;simp only at AL;obtain ⟨n0,n1,n2,n3,n4⟩:=jai (n:=⟨op,nam,⟨ia,il,ic⟩,out,⟨ao,al,cap⟩⟩) (BX.out w0 (jae _));rw [hw0] at n0 n1 n2 n3 n4;go_enter Tryz.func26,Tryz.ntmps26;go_wp2_with fail;rw [← hw0];clear hw0 n0 n1 n2 n3 n4;refine AL.out.mono ?_;rintro e w1 ⟨⟨sa,sn,sc⟩,rfl,hs,hg1⟩;have AX:=jac (jjm _ _ x.length w1 hs (by omega));simp only [Sl.v] at AX ⊢;rw [hax] at AX;have G1:=jac (jaa g0.out hg1);clear hs hg1 AL hax;go_wp2_with (first | (go_at_call 46;refine AX.out.mono ?_;rintro e w2 ⟨hg2,Bg,rfl,hob,-⟩) | fail);have GI:=jac (jaa G1.out (jaa hg2 (jab w2 (.cells #[.int .i64 0] 3))));have OB:=jac (hob.new (jab w2 (.cells #[.int .i64 0] 3)));have P0:=jac (jbo w2 [0] 3 (by simp) (by simp));obtain ⟨w3,hw3⟩ : ∃ w3,w3=w2.alloc (.cells #[.int .i64 0] 3):=⟨_,rfl⟩
     simp only [List.map_cons,List.map_nil,List.length_cons,List.length_nil,Nat.zero_add] at P0;rw [← hw3] at GI OB P0 ⊢;clear hg2 hob hw3 AX G1;go_loopw [7,8,27] (fun s c i wr=>∃ (k:Nat) (u:Sl),k≤x.length∧i=.int .i64 k∧s=.slice u.a u.n u.c∧c=.int .i64 ((jbA (x.take k) (gone.take k):Nat):Int)∧jak wr u.v (plF (x.take k) (gone.take k) [0])∧w3.grownBy wr none) (fun _ _ i _=>x.length - (intOf i).toNat)
     case atStart=>exact ⟨0,⟨some ⟨w2.heap.size,0,none⟩,1,1⟩,Nat.zero_le _,rfl,rfl,rfl,P0.out,jae _⟩
     case round =>
      obtain ⟨k,⟨sa,sn,sc⟩,hk,rfl,rfl,rfl,hp,hg⟩:=hrel;simp only;have HPK:=jac hp;have HG:=jac hg
      by_cases hkl:k<x.length
      ·obtain ⟨b,off,rfl,hc⟩:=HX.out.get hkl;have hgk:k<gone.length:=by rw [HGL.out];exact hkl
       have hcell:wr.cell? ⟨b,off+k,none⟩=some (.int .i64 (x.getD k 0)):=jad (hc k hkl) (jaa GI.out hg);obtain ⟨cb,fb⟩:=(OB.out.new hg).at (k:=k) (v:=gone.getD k false) (by simp [List.getD,hgk]);have hd1:1≤x.getD k 0:=HF.out.at k hkl;have hd2:x.getD k 0≤65536:=HF.out.le_each (by simp [List.getD,hkl]);obtain ⟨d,hd⟩ : ∃ d:Nat,x.getD k 0=(d:Int):=⟨(x.getD k 0).toNat,(Int.toNat_of_nonneg (by omega)).symm⟩
       have S1:=jdU (x.getD k 0) (gone.getD k false) (x.take k) (gone.take k) [0] (by rw [List.length_take,List.length_take,HGL.out]);have S2:=jcC (x.getD k 0) (gone.getD k false) (x.take k) (gone.take k) (by rw [List.length_take,List.length_take,HGL.out]);rw [← jb3 x k hkl,← jf1 gone k hgk] at S1 S2;have PK:=PLS.out k;have PK1:=PLS.out (k+1);obtain ⟨gb,hgb⟩ : ∃ gb,gb=gone.getD k false:=⟨_,rfl⟩
       rw [hd,Int.toNat_natCast,← hgb] at S1 S2;rw [hd] at hcell hd1 hd2;rw [← hgb] at cb;have e1:=PK1.1.len;rw [S1,jeH] at e1;have e2:=PK1.1.cnt;rw [S2] at e2;have e3:=PK1.2;have e4:=PK.1.cnt;have e5:=PK.2;have FU:=jac (fun (wx:World) (hgx:wr.grownBy wx none)=>jqJ ⟨sa,sn,sc⟩ _ d gb wx (HPK.out.more hgx) (fun p hp=>by have:=PK.1.mem p hp;omega) (by omega) (by omega));simp only at FU;have HS1:=jac S1;have HS2:=jac S2;obtain ⟨C,hC⟩ : ∃ C,C=jbA (x.take k) (gone.take k):=⟨_,rfl⟩
       rw [← hC] at HS2 e2 e4 ⊢;clear hc hd hgb hp hg S1 S2 PK PK1 hC e1
       cases gb with
       | true =>
        go_wp2_with (first | (go_at_call 48;refine (FU.out _ (jae _)).mono ?_;rintro e w4 ⟨⟨va,vn,vc⟩,rfl,ho,hg4⟩;simp only) | fail);have N1:=jac ho.ints;have N2:=jac (jaa HG.out hg4);clear ho hg4;go_roundw
        case rel=>exact ⟨k+1,⟨va,vn,vc⟩,by omega,by go_num,rfl,by rw [HS2.out];simp,by rw [HS1.out];exact N1.out,N2.out⟩
        case measure=>simp [intOf];omega
       | false =>
        simp only [Bool.false_eq_true,if_false,Int.natCast_mul] at e2;have q0:0≤(C:Int)*(d:Int):=Int.mul_nonneg (Int.natCast_nonneg _) (Int.natCast_nonneg _);have hw:IntKind.i64.wrap ((C:Int)*(d:Int))=(C:Int)*d:=by rw [jbg];unfold wrap64;omega
        go_wp2_with (first | (go_at_call 48;refine (FU.out _ (jae _)).mono ?_;rintro e w4 ⟨⟨va,vn,vc⟩,rfl,ho,hg4⟩;simp only) | fail);have N1:=jac ho.ints;have N2:=jac (jaa HG.out hg4);clear ho hg4;go_roundw
        case rel=>exact ⟨k+1,⟨va,vn,vc⟩,by omega,by go_num,rfl,by rw [HS2.out];simp,by rw [HS1.out];exact N1.out,N2.out⟩
        case measure=>simp [intOf];omega
      ·have hke:k=x.length:=by omega
       subst hke;have tx:x.take x.length=x:=List.take_length;have tg:gone.take x.length=gone:=List.take_of_length_le (by rw [HGL.out];exact Nat.le_refl _);have PK:=PLS.out x.length;rw [tx,tg] at PK HPK ⊢;obtain ⟨PL,hPL⟩ : ∃ PL,PL=plF x gone [0]:=⟨_,rfl⟩
       obtain ⟨C,hC⟩ : ∃ C,C=jbA x gone:=⟨_,rfl⟩
       obtain ⟨p1,p2,p3,p4⟩:=PK.1;rw [← hPL] at p1 p2;rw [← hC] at p2 p3 p4;rw [← hPL] at HPK;rw [← hC];have HPL:=jac hPL;have HCC:=jac hC;have hb:=PK.2;have hb1:PL.length≤65536:=by omega
       have hb2:C≤65536:=by omega
       have PM:=jac p2;have hb4:j0.bytes*C≤281474976710656:=by rw [jz2];omega
       have hb5:C≤maxLen:=by simp only [maxLen];omega
       obtain ⟨_,_,ep,-⟩:=HPK.out.sl;simp only [Sl.v,Value.slice.injEq] at ep;obtain ⟨-,rfl,-⟩:=ep;obtain ⟨wz,ewz⟩ : ∃ z,z=wr:=⟨_,rfl⟩
       subst ewz;have hsz:w.heap.size≤wz.heap.size:=(jaa GI.out HG.out).size;clear hp hg PK hPL hC tx tg p1 p2 p3 hb hkl;go_wp2_with (first | (refine wpList_make_full _ rfl (.tmp 48) (.tmp 48) 64 rfl wz.heap.size 29 j0 (.slice none 0 0) 1 Tryz.underlying64 hj0 jz0 jz1 .i64 .i64 _ _ C rfl rfl (by omega) (by omega) hb4 hb5 (Nat.le_refl _) ?_;intro w5 hown5 hg5));have GR0:=jac (Gr.nils (R:=jh5 PL C 0) hown5 (fun k hk=>by rw [jcu PL C 0 k hk];rfl));have HG5:=jac hg5;clear hown5 hg5 hb4 hb5;go_wp2;go_loopw [52] (fun i wx=>∃ (k:Nat) (rs:List Sl),k≤PL.length∧i=.int .i64 k∧Gr wx wz.heap.size wz.heap.size C (jh5 PL C k) rs∧wz.grownBy wx none) (fun i _=>PL.length - (intOf i).toNat)
       case atStart=>exact ⟨0,_,Nat.zero_le _,rfl,GR0.out,HG5.out⟩
       case round =>
        obtain ⟨k,rs,hk,rfl,hgr,hg⟩:=hrel;have HR:=jac hgr;have HGX:=jac hg
        by_cases hlt:k<PL.length
        ·obtain ⟨b,off,rfl,hc⟩:=HPK.out.get hlt;have hcell:=jad (hc k hlt) hg;have hm:=PM.out (PL.getD k 0) (by simp [List.getD,hlt]);obtain ⟨m,hme⟩ : ∃ m:Nat,PL.getD k 0=(m:Int):=⟨(PL.getD k 0).toNat,(Int.toNat_of_nonneg hm.1).symm⟩
         rw [hme] at hcell hm;have hmC:m<C:=by omega
         have HST:=jac (jmX PL C k m hmC hme);obtain ⟨rc,rf⟩:=hgr.rd hmC;have EA:=jac (hgr.each m hmC);rw [jcu PL C k m hmC] at EA;obtain ⟨⟨ra,rn,rcap⟩,hrv⟩ : ∃ s,s=rs.getD m jfp:=⟨_,rfl⟩
         rw [← hrv] at rc EA;simp only at rc;have hlen:=jel PL k m;have OW:=jac ((EA.out.new (jab wr (.cells #[.int .i64 (k:Int)] 3))).1);have hsz':=hg.size
         have GA:Hid (∀ (w8:World) (gg cap8:Nat),w8.ownsRow wz.heap.size 3 1 (.slice (some ⟨gg,0,none⟩) ((jb6 PL k m).length+1) cap8) ((jb6 PL k m).length+1) ((jb6 PL k m).map (Value.int .i64)++[.int .i64 (k:Int)])→(wr.alloc (.cells #[.int .i64 (k:Int)] 3)).grownBy w8 (Value.slice ra rn rcap).ownBlock→((Value.slice ra rn rcap).ownBlock=some gg∨gg=wr.heap.size+1)→w8.cell? ⟨wz.heap.size,m,none⟩=some (.slice ra rn rcap)∧w8.frozen? ⟨wz.heap.size,m,none⟩=false∧Gr (w8.setCell ⟨wz.heap.size,m,none⟩ (.slice (some ⟨gg,0,none⟩) ((jb6 PL k m).length+1) cap8)) wz.heap.size wz.heap.size C (jh5 PL C (k+1)) (rs.set m ⟨some ⟨gg,0,none⟩,(jb6 PL k m).length+1,cap8⟩)∧wz.grownBy (w8.setCell ⟨wz.heap.size,m,none⟩ (.slice (some ⟨gg,0,none⟩) ((jb6 PL k m).length+1) cap8)) none):=fun w8 gg cap8 h1 h2 h3=>by
          have e0:rs.getD m jfp=⟨ra,rn,rcap⟩:=hrv.symm
          have key:=(HR.out.new (jab wr (.cells #[.int .i64 (k:Int)] 3))).app (joL _ _ _) hmC (v':=⟨some ⟨gg,0,none⟩,(jb6 PL k m).length+1,cap8⟩) (i:=k) (by rw [e0];exact h2) (by rw [jcu PL C k m hmC];exact h1) (by
           rw [e0]
           rcases h3 with h | h
           ·exact Or.inl h.symm
           ·exact Or.inr (by rw [h];simp [Value.ownBlock])) (by omega) (by rw [jcu PL C k m hmC];omega)
          rw [e0,jcu PL C k m hmC,← HST.out] at key;refine ⟨key.1,key.2.1,key.2.2.1,?_⟩;exact jaq (jav (jaa HGX.out (jab _ _)) h2 (fun r e=>((HR.out.each m hmC).1.lt r (by rw [e0];exact e)).1)) key.2.2.2 (Nat.le_refl _)
         have l1:(k:Int)<(PL.length:Int):=by omega
         have l2:(m:Int)<(C:Int):=by omega
         clear hgr hg hc hm hme hrv;go_wp2_with (first | (at_builtin;refine wpList_append_lies _ rfl (.tmp 62) (.tmp 64) 29 rfl wz.heap.size 3 i0 (.int .i64 0) 1 8 Tryz.underlying29 hi0 hz0 hz1 hz2 rfl (by decide) (.slice ra rn rcap) (jb6 PL k m).length ((jb6 PL k m).map (Value.int .i64)) rfl (by exact OW.out) ⟨wr.heap.size,0,none⟩ 1 1 [.int .i64 (k:Int)] rfl rfl (by exact World.news_of_block (by have h:=heap_alloc_new wr (.cells #[.int .i64 (k:Int)] 3);simpa using h)) (jft _) (by omega) (by simp only [maxLen];omega) (by omega) (by simp;omega) (wr.heap.size+1) (by simp) ?_;intro gg cap8 w8 hown8 hgrow hat hlt8;obtain ⟨s1,s2,s3,s4⟩:=GA.out w8 gg cap8 hown8 hgrow hat;clear hown8 hgrow hat hlt8 rc rf) | fail);go_roundw
         case rel=>exact ⟨k+1,_,by omega,by go_num,s3,s4⟩
         case measure=>simp [intOf];omega
        ·have hke:k=PL.length:=by omega
         subst hke;clear hgr hg;go_wp2;go_ret;rw [← HPL.out,← HCC.out];exact ⟨_,_,rs,hsz,rfl,HR.out,jaa (jaa GI.out HG.out) HGX.out⟩
end Go.Proofs.YtekocmdfaaoggaaGreatDoor
namespace Go.Proofs.YtekocmdfaaoggaaGreatDoor
open Go.RowKit
def jbc (xs ns:List Int):List Int:=ns.map fun z=>xs.getD z.toNat 0
theorem jm3 (f:Int→Int) (l:List Int) (k:Nat) (hk:k<l.length):((l.take k).map f++List.replicate (l.length - k) (0:Int)).set k (f (l.getD k 0))=(l.take (k+1)).map f++List.replicate (l.length - (k+1)) 0:=by
 rw [List.set_append_right _ _ (by rw [List.length_map,List.length_take];omega),List.length_map,List.length_take,Nat.min_eq_left (by omega),Nat.sub_self,show l.length - k=(l.length - (k+1))+1 from by omega,List.replicate_succ,List.set_cons_zero,List.take_add_one,List.getElem?_eq_getElem (by omega),Option.toList_some,List.map_append,List.append_assoc];have e:l.getD k 0=l[k]:=by simp [List.getD,hk]
 rw [e]
 rfl
theorem jcj (u v:Sl) (xs ns:List Int) (w:World) (hx:jak w u.v xs) (hn:jak w v.v ns) (hl:ns.length≤70000) (hm:∀ z∈ns,0≤z∧z<(xs.length:Int)):Calls Tryz.prog 27 #[.slice u.a u.n u.c,.slice v.a v.n v.c] w fun e w'=>∃ s:Sl,e=.returned (.slice s.a s.n s.c)∧jak w' s.v (jbc xs ns)∧w.grownBy w' none:=by
 obtain ⟨i0,hi0,hz0,hz1,hz2⟩:=info_parts jct;obtain ⟨ua,un,uc⟩:=u;obtain ⟨va,vn,vc⟩:=v;obtain ⟨_,_,eu,c1,c2,c3⟩:=hx.sl;obtain ⟨_,_,ev,d1,d2,d3⟩:=hn.sl;simp only [Sl.v,Value.slice.injEq] at eu ev;obtain ⟨rfl,rfl,rfl⟩:=eu;obtain ⟨rfl,rfl,rfl⟩:=ev;have HX:=jac hx;have HN:=jac hn;have HM:=jac hm;have hb4:i0.bytes*ns.length≤281474976710656:=by rw [hz2];omega
 have hb5:ns.length≤maxLen:=by simp only [maxLen];omega
 clear hx hn hm;go_enter Tryz.func27,Tryz.ntmps27;go_wp2_with (first | (refine wpList_make_full _ rfl (.tmp 9) (.tmp 9) 30 rfl w.heap.size 2 i0 (.int .i64 0) 1 Tryz.underlying30 hi0 hz0 hz1 .i64 .i64 _ _ ns.length rfl rfl (by omega) (by omega) hb4 hb5 (Nat.le_refl _) ?_;intro w1 hown1 hg1));rw [jbJ] at hown1
 have O1:Hid (jaT w1 w.heap.size (.slice (some ⟨w.heap.size,0,none⟩) ns.length ns.length) (List.replicate ns.length 0)):=by
  refine ⟨by rw [List.length_replicate];exact hown1,by rw [List.length_replicate];omega,fun z hz=>?_⟩;rw [(List.mem_replicate.1 hz).2];omega
 have G1:=jac hg1;clear hown1 hg1 hb4 hb5;go_wp2;go_loopw [13] (fun i wr=>w.grownBy wr none∧∃ k:Nat,k≤ns.length∧i=.int .i64 k∧jaT wr w.heap.size (.slice (some ⟨w.heap.size,0,none⟩) ns.length ns.length) ((ns.take k).map (fun z=>xs.getD z.toNat 0)++List.replicate (ns.length - k) 0)) (fun i _=>ns.length - (intOf i).toNat)
 case atStart=>exact ⟨G1.out,0,Nat.zero_le _,rfl,by simpa using O1.out⟩
 case round =>
  obtain ⟨hg,k,hk,rfl,o1⟩:=hrel;have HG:=jac hg;have P1:=jac o1;clear o1
  by_cases hlt:k<ns.length
  ·obtain ⟨b,off,rfl,hc⟩:=HN.out.get hlt;have hcell:=jad (hc k hlt) hg;have hmm:=HM.out (ns.getD k 0) (by simp [List.getD,hlt]);obtain ⟨m,hme⟩ : ∃ m:Nat,ns.getD k 0=(m:Int):=⟨(ns.getD k 0).toNat,(Int.toNat_of_nonneg hmm.1).symm⟩
   rw [hme] at hcell hmm;have hmx:m<xs.length:=by omega
   obtain ⟨xb,xo,rfl,hcx⟩:=HX.out.get hmx;have hcell2:=jad (hcx m hmx) hg;have hwf:=HX.out.wf (xs.getD m 0) (by simp [List.getD,hmx]);obtain ⟨a1,a2,a3,a4⟩:=P1.out.put (by rw [List.length_append,List.length_map,List.length_take,List.length_replicate];omega) hlt (xs.getD m 0) hwf;have ST:=jm3 (fun z=>xs.getD z.toNat 0) ns k hlt;simp only [hme,Int.toNat_natCast] at ST;rw [ST] at a3;have N1:=jac a3;have NG:=jac (jaq hg a4 (Nat.le_refl _));obtain ⟨ov,hov⟩ : ∃ q,q=((ns.take k).map (fun z=>xs.getD z.toNat 0)++List.replicate (ns.length - k) (0:Int)).getD k 0:=⟨_,rfl⟩
   rw [← hov] at a1;obtain ⟨z,hz⟩ : ∃ z,z=xs.getD m 0:=⟨_,rfl⟩
   rw [← hz] at hcell2 N1 NG;have l1:(k:Int)<(ns.length:Int):=by omega
   have l2:(m:Int)<(xs.length:Int):=by omega
   clear a3 a4 hg hov hz hc hcx hwf hme ST hmm;go_wp2_with fail;go_roundw
   case rel=>exact ⟨NG.out,k+1,by omega,by go_num,N1.out⟩
   case measure=>simp [intOf];omega
  ·have hke:k=ns.length:=by omega
   subst hke;have F1:=P1.out.ints;rw [List.take_length,Nat.sub_self,List.replicate_zero,List.append_nil] at F1;have HF1:=jac F1;clear hg F1;go_wp2;go_ret;exact ⟨⟨some ⟨w.heap.size,0,none⟩,ns.length,ns.length⟩,rfl,HF1.out,HG.out⟩
end Go.Proofs.YtekocmdfaaoggaaGreatDoor
namespace Go.Proofs.YtekocmdfaaoggaaGreatDoor
open Go.RowKit
theorem jc9 {fn : Func} {p u : Tmp} (h : fn.results = #[.cell p 32, .tmp u]) (tmps : Array Value) (w : World) (B : Nat) (hp : tmps.getD p undef = .pointer (some ⟨B, 0, none⟩)) {a0 a1 a2 : Value}
    (hb:w.heap[B]?=some (.cells #[a0,a1,a2] 32 (0,0))):(results fn tmps).run Tryz.prog w=.ok (.tuple #[.agg #[a0,a1,a2],tmps.getD u undef]) w:=by
     have hl:=run_loadVar_row (P:=Tryz.prog) w B _ 32 #[a0,a1,a2] (0,0) _ hb Tryz.underlying32 rfl (by rw [jig];rfl);rw [results_cell_tmp h,hp];simp [asAddr,hl,Result.andThen]
theorem jgY {w:World} {base te sz n:Nat} {v:Value} {cs:List Value} (h:w.ownsRow base te sz v n cs) {B:Nat} (hB:B<base):v.ownBlock=none∨v.ownBlock≠some B:=by
 rcases h.2 with ⟨e,-⟩ | ⟨g,cap,cur,e,hg,-⟩
 ·exact .inl (by rw [e];rfl)
 ·exact .inr (by rw [e];simp [Value.ownBlock];omega)
theorem jdY {w:World} {base base' te sz n:Nat} {v:Value} {cs:List Value} (h:w.ownsRow base te sz v n cs) (hb:base'≤base):w.ownsRow base' te sz v n cs:=by
 obtain ⟨h1,h2 | ⟨g,cap,cur,e1,e2,e3⟩⟩:=h
 ·exact ⟨h1,.inl h2⟩
 ·exact ⟨h1,.inr ⟨g,cap,cur,e1,Nat.le_trans hb e2,e3⟩⟩
def DoY (w:World) (R0:R (Int×List Int)) (K:Int→List Int→R (List Int)→Prop) (e:Ending) (w':World):Prop:=w.grownBy w' none∧((∃ c:Int,c≠0∧e=.returned (.tuple #[.agg #[.int .i64 0,.slice none 0 0,.slice none 0 0],.int .i64 c]))∨∃ (t:Ten) (l zs:List Int),R0=.ok (t.ty,l)∧e=.returned (.tuple #[jqF t,.int .i64 0])∧K t.ty l (.ok zs)∧Owns w' w.heap.size t.dv.v l∧jaT w' w.heap.size t.tv.v zs)
theorem joT (n : Nod) (u : Sl) (R0 : R (Int × List Int)) (K : Int → List Int → R (List Int) → Prop) (w : World) (h1 : ∀ c, R0 = .error c → c ≠ 0) (h2 : ∀ ty l c, K ty l (.error c) → c ≠ 0)
    (NC:∀ wx,w.grownBy wx none→Calls Tryz.prog 15 #[jax n,.slice u.a u.n u.c] wx (jnB n.out wx R0))
    (MC:∀ (wx:World) (ty:Int) (dv:Sl) (l:List Int),w.grownBy wx none→R0=.ok (ty,l)→jak wx dv.v l→Calls Tryz.prog 10 #[jax n,.slice u.a u.n u.c,.agg #[.string n.out,.int .i64 ty,.slice dv.a dv.n dv.c]] wx fun e w'=>∃ r,K ty l r∧EvQ wx r e w') :
    Calls Tryz.prog 9 #[jax n,.slice u.a u.n u.c,.func (.func 10) #[] #[]] w (DoY w R0 K):=by
     have H1:=jac h1;have H2:=jac h2;have HMC:=jac MC;clear h1 h2 MC;obtain ⟨w0,hw0⟩ : ∃ w0,w0=(w.alloc (.cells #[.string n.op,.string n.name,.slice n.iv.a n.iv.n n.iv.c,.string n.out,.slice n.av.a n.av.n n.av.c] 25)).alloc (.cells #[.int .i64 0,.slice none 0 0,.slice none 0 0] 32):=⟨_,rfl⟩
     have g0:Hid (w.grownBy w0 none):=by show w.grownBy w0 none;rw [hw0];exact jaa (jab _ _) (jab _ _)
     have hbx:=jaJ w (.cells #[.string n.op,.string n.name,.slice n.iv.a n.iv.n n.iv.c,.string n.out,.slice n.av.a n.av.n n.av.c] 25) (.cells #[.int .i64 0,.slice none 0 0,.slice none 0 0] 32);rw [← hw0] at hbx;have BN:Hid (∀ wx,w0.grownBy wx none→wx.heap[w.heap.size]?=some (.cells #[.string n.op,.string n.name,.slice n.iv.a n.iv.n n.iv.c,.string n.out,.slice n.av.a n.av.n n.av.c] 25 (0,0))):=fun wx hg=>jaf hbx.1 hg;have BX:Hid (∀ wx,w0.grownBy wx none→wx.heap[w.heap.size+1]?=some (.cells #[.int .i64 0,.slice none 0 0,.slice none 0 0] 32 (0,0))):=fun wx hg=>jaf hbx.2 hg;have Z0:Hid (w.heap.size+1<w0.heap.size):=(Array.getElem?_eq_some_iff.1 hbx.2).1;have N1:=jac (NC w0 g0.out);clear hbx NC;obtain ⟨op,nam,⟨ia,il,ic⟩,out,⟨ao,al,cap⟩⟩:=n;obtain ⟨ua,un,uc⟩:=u;unfold jax at HMC N1 ⊢;simp only at HMC N1 BN hw0 ⊢;go_enter Tryz.func9,Tryz.ntmps9;go_wp2_with fail;rw [← hw0];clear hw0;refine N1.out.mono ?_;rintro e w1 ⟨hg1,hq⟩;have G1:=jac hg1
     cases R0 with
     | error c =>
      obtain rfl:=hq;have hc:=H1.out c rfl;have bc:(c != 0)=true:=by simpa using hc
      obtain ⟨w2,hw2⟩ : ∃ w2,w2=w1.alloc (.cells #[.string ⟨#[]⟩,.int .i64 0,.slice none 0 0] 50):=⟨_,rfl⟩
      have g2:w1.grownBy w2 none:=by rw [hw2];exact jab _ _
      have B1:=BX.out w2 (jaa hg1 g2);obtain ⟨f0,f1,f2⟩:=ja3 B1;have c0:w2.cell? ⟨w.heap.size+1,0,none⟩=some (.int .i64 0):=(cell_of_row _ _ 0 _ _ (0,0) B1).trans rfl;have c1:w2.cell? ⟨w.heap.size+1,1,none⟩=some (.slice none 0 0):=(cell_of_row _ _ 1 _ _ (0,0) B1).trans rfl;have c2:w2.cell? ⟨w.heap.size+1,2,none⟩=some (.slice none 0 0):=(cell_of_row _ _ 2 _ _ (0,0) B1).trans rfl;obtain ⟨hX,gX⟩:=jbr (.int .i64 0) (.slice none 0 0) (.slice none 0 0) B1;have HX:=jac hX;have GX:=jac (jaq (jaa g0.out (jaa hg1 g2)) gX (by omega));rw [hw2] at f0 f1 f2 c0 c1 c2 HX GX;clear hX gX B1 hc hg1 g2 hw2;go_wp2;refine bodyPost_ret (jc9 rfl _ _ (w.heap.size+1) rfl HX.out) rfl ?_;exact ⟨GX.out,.inl ⟨c,H1.out c rfl,rfl⟩⟩
     | ok rr =>
      obtain ⟨ty,l⟩:=rr;obtain ⟨⟨s1,s2,s3⟩,rfl,ho⟩:=hq;obtain ⟨w2,hw2⟩ : ∃ w2,w2=w1.alloc (.cells #[.string out,.int .i64 ty,.slice s1 s2 s3] 50):=⟨_,rfl⟩
      have g2:w1.grownBy w2 none:=by rw [hw2];exact jab _ _
      have hB2:=heap_alloc_new w1 (.cells #[.string out,.int .i64 ty,.slice s1 s2 s3] 50);rw [← hw2] at hB2;have BV:Hid (∀ wx,w2.grownBy wx none→wx.heap[w1.heap.size]?=some (.cells #[.string out,.int .i64 ty,.slice s1 s2 s3] 50 (0,0))):=fun wx hg=>jaf hB2 hg;have HO:=jac ho;obtain ⟨n0,n1,n2,n3,n4⟩:=jai (n:=⟨op,nam,⟨ia,il,ic⟩,out,⟨ao,al,cap⟩⟩) (BN.out w2 (jaa hg1 g2));have M1:=jac (HMC.out w2 ty ⟨s1,s2,s3⟩ l (jaa g0.out (jaa hg1 g2)) rfl (ho.ints.more g2));have G2:=jac (jaa hg1 g2);have G12:=jac g2;simp only at n0 n1 n2 n3 n4 M1;rw [hw2] at n0 n1 n2 n3 n4;clear ho hg1 g2 hB2;go_wp2_with fail;rw [← hw2];clear hw2 n0 n1 n2 n3 n4;refine M1.out.mono ?_;rintro e w3 ⟨mr,hK,hg3,hq⟩;have HK:=jac hK;have B3:=BX.out w3 (jaa G2.out hg3);have G3:=jac (jaa g0.out (jaa G2.out hg3));obtain ⟨f0,f1,f2⟩:=ja3 B3;have c0:w3.cell? ⟨w.heap.size+1,0,none⟩=some (.int .i64 0):=(cell_of_row _ _ 0 _ _ (0,0) B3).trans rfl;have c1:w3.cell? ⟨w.heap.size+1,1,none⟩=some (.slice none 0 0):=(cell_of_row _ _ 1 _ _ (0,0) B3).trans rfl;have c2:w3.cell? ⟨w.heap.size+1,2,none⟩=some (.slice none 0 0):=(cell_of_row _ _ 2 _ _ (0,0) B3).trans rfl;clear hK
      cases mr with
      | error c =>
       obtain rfl:=hq;have hc:=H2.out ty l c HK.out;have HC:=jac hc;have bc:(c != 0)=true:=by simpa using hc
       obtain ⟨hX,gX⟩:=jbr (.int .i64 0) (.slice none 0 0) (.slice none 0 0) B3;have HX:=jac hX;have GX:=jac (jaq G3.out gX (by omega));clear hX gX B3 hc hg3;go_wp2;refine bodyPost_ret (jc9 rfl _ _ (w.heap.size+1) rfl HX.out) rfl ?_;exact ⟨GX.out,.inl ⟨c,HC.out,rfl⟩⟩
      | ok zs =>
       obtain ⟨⟨t1,t2,t3⟩,rfl,ht⟩:=hq;have bv:=BV.out w3 hg3;have v1:w3.cell? ⟨w1.heap.size,1,none⟩=some (.int .i64 ty):=(cell_of_row _ _ 1 _ _ (0,0) bv).trans rfl;have v2:w3.cell? ⟨w1.heap.size,2,none⟩=some (.slice s1 s2 s3):=(cell_of_row _ _ 2 _ _ (0,0) bv).trans rfl;obtain ⟨hX,gX⟩:=jbr (.int .i64 ty) (.slice s1 s2 s3) (.slice t1 t2 t3) B3;have HX:=jac hX;have GX:=jac (jaq G3.out gX (by omega));have z0:=Z0.out;have z1:=g0.out.size;have z2:=G2.out.size;have OD:=jac (((HO.out.more (jaa G12.out hg3) (by cases (Sl.v ⟨s1,s2,s3⟩).ownBlock <;> simp)).base_le (b':=w0.heap.size) (Nat.le_refl _)).more gX (jgY HO.out.1 (by omega)))
       have OT:Hid (jaT _ w2.heap.size (Sl.v ⟨t1,t2,t3⟩) zs):=ht.more gX (jgY ht.1 (by omega));clear hX gX B3 hg3 bv ht z0 z1 z2;go_wp2;refine bodyPost_ret (jc9 rfl _ _ (w.heap.size+1) rfl HX.out) rfl ?_;exact ⟨GX.out,.inr ⟨⟨ty,⟨s1,s2,s3⟩,⟨t1,t2,t3⟩⟩,l,zs,rfl,rfl,HK.out,OD.out.base_le (by have:=g0.out.size;omega),⟨jdY OT.out.1 (by have:=g0.out.size;have:=G2.out.size;omega),OT.out.2⟩⟩⟩
theorem jqN (n:Nod) (u:Sl) (R0:R (Int×List Int)) (K:Int→List Int→R (List Int)→Prop) (w:World) (BC:∀ wx,w.grownBy wx none→Calls Tryz.prog 9 #[jax n,.slice u.a u.n u.c,.func (.func 10) #[] #[]] wx (DoY wx R0 K)) :
    Calls Tryz.prog 6 #[jax n,.slice u.a u.n u.c] w (DoY w R0 K):=by
     obtain ⟨w0,hw0⟩ : ∃ w0,w0=(w.alloc (.cells #[.string n.op,.string n.name,.slice n.iv.a n.iv.n n.iv.c,.string n.out,.slice n.av.a n.av.n n.av.c] 25)).alloc (.cells #[.int .i64 0,.slice none 0 0,.slice none 0 0] 32):=⟨_,rfl⟩
     have g0:Hid (w.grownBy w0 none):=by show w.grownBy w0 none;rw [hw0];exact jaa (jab _ _) (jab _ _)
     have hbx:=jaJ w (.cells #[.string n.op,.string n.name,.slice n.iv.a n.iv.n n.iv.c,.string n.out,.slice n.av.a n.av.n n.av.c] 25) (.cells #[.int .i64 0,.slice none 0 0,.slice none 0 0] 32);rw [← hw0] at hbx;have BX:Hid (∀ wx,w0.grownBy wx none→wx.heap[w.heap.size+1]?=some (.cells #[.int .i64 0,.slice none 0 0,.slice none 0 0] 32 (0,0))):=fun wx hg=>jaf hbx.2 hg;have Z0:Hid (w.heap.size+1<w0.heap.size):=(Array.getElem?_eq_some_iff.1 hbx.2).1;have N1:=jac (BC w0 g0.out);clear hbx BC;obtain ⟨op,nam,⟨ia,il,ic⟩,out,⟨ao,al,cap⟩⟩:=n;obtain ⟨ua,un,uc⟩:=u;unfold jax at N1 ⊢;simp only at N1 hw0 ⊢;go_enter Tryz.func6,Tryz.ntmps6;go_wp2_with fail;rw [← hw0];clear hw0;refine N1.out.mono ?_;rintro e w3 ⟨hg3,hq⟩;have B3:=BX.out w3 hg3;have G3:=jac (jaa g0.out hg3);obtain ⟨f0,f1,f2⟩:=ja3 B3;have c0:w3.cell? ⟨w.heap.size+1,0,none⟩=some (.int .i64 0):=(cell_of_row _ _ 0 _ _ (0,0) B3).trans rfl;have c1:w3.cell? ⟨w.heap.size+1,1,none⟩=some (.slice none 0 0):=(cell_of_row _ _ 1 _ _ (0,0) B3).trans rfl;have c2:w3.cell? ⟨w.heap.size+1,2,none⟩=some (.slice none 0 0):=(cell_of_row _ _ 2 _ _ (0,0) B3).trans rfl
     rcases hq with ⟨c,hc0,rfl⟩ | ⟨⟨ty',⟨s1,s2,s3⟩,⟨t1,t2,t3⟩⟩,l,zs,hr,rfl,hK,hd,ht⟩
     ·have HC:=jac hc0;obtain ⟨hX,gX⟩:=jbr (.int .i64 0) (.slice none 0 0) (.slice none 0 0) B3;have HX:=jac hX;have GX:=jac (jaq G3.out gX (by omega));clear hX gX B3 hg3 hc0;go_wp2;refine bodyPost_ret (jc9 rfl _ _ (w.heap.size+1) rfl HX.out) rfl ?_;exact ⟨GX.out,.inl ⟨c,HC.out,rfl⟩⟩
     ·simp only at hr hK hd ht;have HRR:=jac hr;have HK:=jac hK;obtain ⟨hX,gX⟩:=jbr (.int .i64 ty') (.slice s1 s2 s3) (.slice t1 t2 t3) B3;have HX:=jac hX;have GX:=jac (jaq G3.out gX (by omega));have OD:=jac (hd.more gX (jgY hd.1 Z0.out));have OT:=jac (ht.more gX (jgY ht.1 Z0.out));clear hX gX B3 hg3 hd ht hr hK;unfold jqF;go_wp2;refine bodyPost_ret (jc9 rfl _ _ (w.heap.size+1) rfl HX.out) rfl ?_;exact ⟨GX.out,.inr ⟨⟨ty',⟨s1,s2,s3⟩,⟨t1,t2,t3⟩⟩,l,zs,HRR.out,rfl,HK.out,OD.out.base_le (by have:=g0.out.size;omega),⟨jdY OT.out.1 (by have:=g0.out.size;omega),OT.out.2⟩⟩⟩
end Go.Proofs.YtekocmdfaaoggaaGreatDoor
namespace Go.Proofs.YtekocmdfaaoggaaGreatDoor
open Go.RowKit
def ToldF (k:Nat) (w:World) (e:Ending) (w':World):Prop:=∃ b,e=.returned (.bool b)∧(b=true→k≤6)∧w.grownBy w' none
theorem jiX (u:Sl) (ps:List (Ten×Tq)) (w:World) (hv:TensIn w u.v ps):Calls Tryz.prog 4 #[.slice u.a u.n u.c] w (ToldF ps.length w):=by
 obtain ⟨xa,xc,e1,p1,p2,p3⟩:=hv.vals.form;rw [List.length_map] at e1 p1 p3;obtain ⟨ua,un,uc⟩:=u;simp only [Sl.v,Value.slice.injEq] at e1;obtain ⟨rfl,rfl,rfl⟩:=e1;have HV:=jac hv;clear hv;go_enter Tryz.func4,Tryz.ntmps4;go_wp2_with fail;go_loopw [3] (fun i wr=>w.grownBy wr none∧∃ (k:Nat),k≤ps.length∧i=.int .i64 k) (fun i _=>ps.length - (intOf i).toNat)
 case atStart=>exact ⟨jae _,0,Nat.zero_le _,rfl⟩
 case round =>
  obtain ⟨hg,k,hk,rfl⟩:=hrel;have HG:=jac hg
  by_cases hlt:k<ps.length
  ·obtain ⟨b,off,rfl⟩:=HV.out.vals.addr (k:=k) (by rw [List.length_map];exact hlt);obtain ⟨-,-,a2⟩:=(HV.out.more hg).at k hlt;obtain ⟨⟨ta,tn,tc⟩,hp⟩ : ∃ p,p=ps[k].1.tv:=⟨_,rfl⟩
   rw [← hp] at a2;simp only at a2;clear hp hg
   by_cases hb:600<tn
   ·have hb':(600:Int)<tn:=by omega
    go_wp2;go_ret;exact ⟨_,rfl,(fun h=>by cases h),HG.out⟩
   ·have hb':¬ (600:Int)<tn:=by omega
    go_wp2_with fail;go_roundw
    case rel=>exact ⟨HG.out,k+1,by omega,by go_num⟩
    case measure=>simp [intOf];omega
  ·obtain rfl:k=ps.length:=by omega
   clear hg
   by_cases h6:ps.length≤6
   ·have h6':(ps.length:Int)≤6:=by omega
    go_wp2;go_ret;exact ⟨_,rfl,(fun _=>h6),HG.out⟩
   ·have h6':¬ (ps.length:Int)≤6:=by omega
    go_wp2;go_ret;exact ⟨_,rfl,(fun h=>by first | (cases h;done) | exact absurd (of_decide_eq_true h) h6'),HG.out⟩
end Go.Proofs.YtekocmdfaaoggaaGreatDoor
