/- A part. -/
import Derived.Test.YtekocmdfaaoggaaGreatDoorMTart
import Derived.Test.YtekocmdfaaoggaaGreatDoorTartBI
import Derived.Test.YtekocmdfaaoggaaGreatDoorTartAU
import Derived.Deep.RegionHeld3
set_option maxHeartbeats 8000000
set_option maxRecDepth 100000
namespace Go.Proofs.YtekocmdfaaoggaaGreatDoor
open Go.RowKit
theorem joY {d m:Nat} {g:Bool} {ps:List Int} (hd:1≤d) (h:∀ p:Nat,p<m→(p:Int)∈ps):∀ p:Nat,p<m*(if g=true then 1 else d)→(p:Int)∈jh4 d g ps:=by
 intro p hp;unfold jh4;refine List.mem_flatMap.2 ?_
 cases g with
 | true =>
  rw [if_pos rfl,Nat.mul_one] at hp;exact ⟨p,h p hp,List.mem_map.2 ⟨0,List.mem_range.2 hd,by simp [joJ]⟩⟩
 | false =>
  rw [if_neg (by decide)] at hp;refine ⟨((p / d:Nat):Int),h _ (Nat.div_lt_of_lt_mul (by rw [Nat.mul_comm];exact hp)),List.mem_map.2 ⟨p % d,List.mem_range.2 (Nat.mod_lt _ hd),?_⟩⟩;simp only [joJ,Bool.false_eq_true,if_false];rw [← Int.natCast_mul,← Int.natCast_add,Nat.mul_comm];exact congrArg Int.ofNat (Nat.div_add_mod p d)
theorem jep:∀ (n:Nat) (x:List Int) (gone:List Bool),x.length=n→gone.length=n→(∀ z∈x,1≤z)→∀ p:Nat,p<jbA x gone→(p:Int)∈plF x gone [0]
 | 0,x,gone,h1,h2,_,p,hp=>by
  rw [List.length_eq_zero_iff.1 h1,List.length_eq_zero_iff.1 h2] at hp ⊢;simp [jbA] at hp;subst hp;simp [plF]
 | n+1,x,gone,h1,h2,hx,p,hp=>by
  obtain ⟨ds,d,rfl⟩ : ∃ ds d,x=ds++[d]:=⟨x.dropLast,x.getLast (by intro e;rw [e] at h1;simp at h1),(List.dropLast_concat_getLast _).symm⟩
  obtain ⟨gs,g,rfl⟩ : ∃ gs g,gone=gs++[g]:=⟨gone.dropLast,gone.getLast (by intro e;rw [e] at h2;simp at h2),(List.dropLast_concat_getLast _).symm⟩
  have e1:ds.length=n:=by simpa using h1
  have e2:gs.length=n:=by simpa using h2
  have hd:1≤d:=hx d (by simp);rw [jcC d g ds gs (by omega)] at hp;rw [jdU d g ds gs _ (by omega)];exact joY (by omega) (jep n ds gs e1 e2 (fun z hz=>hx z (List.mem_append_left _ hz))) p hp
theorem jd0 {pl:List Int} {p:Nat} (h:(p:Int)∈pl):0<(jb6 pl pl.length p).length:=by
 obtain ⟨i,hi,e⟩:=List.mem_iff_getElem.1 h;unfold jb6;rw [List.length_map];refine List.length_pos_of_mem (a:=i) (List.mem_filter.2 ⟨List.mem_range.2 hi,?_⟩);simp [List.getD,hi,e]
theorem jaL {w:World} {base b':Nat} {e:TypeId} {size:Nat} {v:Value} {n:Nat} {xs:List Value} (h:w.ownsRow base e size v n xs) (hb:b'≤base):w.ownsRow b' e size v n xs:=by
 refine ⟨h.1,?_⟩
 rcases h.2 with h0 | ⟨g,cap,cur,e,hg,r⟩
 ·exact .inl h0
 ·exact .inr ⟨g,cap,cur,e,by omega,r⟩
def jaZ (f:List Int→Int) (xs pl:List Int) (c:Nat):List Int:=(List.range c).map fun p=>f (jbc xs (jb6 pl pl.length p))
def Rng (z:Int):Prop := -9223372036854775808≤z∧z≤9223372036854775807
theorem jd1 (f:List Int→Int) (xs pl:List Int) (k:Nat):jaZ f xs pl (k+1)=jaZ f xs pl k++[f (jbc xs (jb6 pl pl.length k))]:=by
 unfold jaZ;rw [List.range_succ,List.map_append]
 rfl
theorem joZ (n : Nod) (A : At) (X : Ten) (x xs : List Int) (gone : List Bool) (f : List Int → Int) (b : Nat) (w : World) (hn : NodeOk w n A) (hx : jak w X.dv.v x) (hxs : jak w X.tv.v xs) (hf : Fine x) (hl : (xs.length : Int) = jbe x) (hax : jbD x.length (jaQ A x.length) (List.replicate x.length false) = some gone) (hgl : gone.length = x.length) (hF : ∀ ys : List Int, (∀ y ∈ ys, Rng y) → 0 < ys.length → ys.length ≤ 65536 → Rng (f ys))
    (W:∀ (wx:World) (u:Sl) (ys:List Int),w.grownBy wx none→jak wx u.v ys→0<ys.length→ys.length≤65536→Calls Tryz.prog 29 #[.slice u.a u.n u.c,.pointer (some ⟨b,0,none⟩)] wx fun e w'=>e=.returned (.int .i64 (f ys))∧wx.grownBy w' none) :
    Calls Tryz.prog 16 #[jax n,.agg #[.int .i64 X.ty,.slice X.dv.a X.dv.n X.dv.c,.slice X.tv.a X.tv.n X.tv.c],.func (.func 29) #[] #[.pointer (some ⟨b,0,none⟩)]] w fun e w'=>∃ s:Sl,e=.returned (.slice s.a s.n s.c)∧jaT w' w.heap.size s.v (jaZ f xs (plF x gone [0]) (jbA x gone))∧w.grownBy w' none:=by
     obtain ⟨i0,hi0,hz0,hz1,hz2⟩:=info_parts jct;obtain ⟨ty,⟨da,dn,dc⟩,⟨ta,tn,tc⟩⟩:=X;simp only [Sl.v] at hx hxs ⊢;have HX:=jac hx;have HXS:=jac hxs;have HW:=jac W;have HFR:=jac hF;have PL0:=jdD x.length x gone rfl hgl hf.pos;have ALL:=jac (jep x.length x gone rfl hgl hf.pos);have hpl:((plF x gone [0]).length:Int)=xs.length:=by rw [PL0.len,hl]
     have hc1:jbA x gone≤65536:=by have:=PL0.cnt;have:=hf.le;omega
     have hl1:xs.length≤65536:=by have:=hf.le;omega
     obtain ⟨_,_,exs,e1,e2,e3⟩:=hxs.sl;simp only [Value.slice.injEq] at exs;obtain ⟨rfl,rfl,rfl⟩:=exs;have GRP:Hid (∀ wx,w.grownBy wx none→Calls Tryz.prog 26 #[jax n,.slice da dn dc] wx fun e w'=>∃ (base Bw:Nat) (rs:List Sl),wx.heap.size≤base∧e=.returned (.slice (some ⟨Bw,0,none⟩) (jbA x gone) (jbA x gone))∧Gr w' base Bw (jbA x gone) (jh5 (plF x gone [0]) (jbA x gone) (plF x gone [0]).length) rs∧wx.grownBy w' none):=fun wx hg=>jci n A ⟨da,dn,dc⟩ x gone wx (hn.more hg) (hx.more hg) hf hax hgl;obtain ⟨PL,hPL⟩ : ∃ PL,PL=plF x gone [0]:=⟨_,rfl⟩
     obtain ⟨C,hC⟩ : ∃ C,C=jbA x gone:=⟨_,rfl⟩
     rw [← hPL] at GRP ALL hpl ⊢;rw [← hC] at GRP ALL hc1 ⊢;clear hx hxs W hF PL0 hPL hC hf hax hgl hl;have NK:=jac hn;obtain ⟨op,nam,⟨ia,il,ic⟩,out,⟨ao,al,cap⟩⟩:=n;unfold jax;simp only;obtain ⟨w0,hw0⟩ : ∃ w0,w0=w.alloc (.cells #[.string op,.string nam,.slice ia il ic,.string out,.slice ao al cap] 25):=⟨_,rfl⟩
     have g0:Hid (w.grownBy w0 none):=by show w.grownBy w0 none;rw [hw0];exact jab _ _
     have hb0:=heap_alloc_new w (.cells #[.string op,.string nam,.slice ia il ic,.string out,.slice ao al cap] 25);rw [← hw0] at hb0;have BX:Hid (∀ wx,w0.grownBy wx none→wx.heap[w.heap.size]?=some (.cells #[.string op,.string nam,.slice ia il ic,.string out,.slice ao al cap] 25 (0,0))):=fun wx hg=>jaf hb0 hg;clear hb0 hn;unfold jax at GRP;simp only at GRP;obtain ⟨w1,hw1⟩ : ∃ w1,w1=w0.alloc (.cells #[.int .i64 ty,.slice da dn dc,.slice ta xs.length tc] 32):=⟨_,rfl⟩
     have hb1:=heap_alloc_new w0 (.cells #[.int .i64 ty,.slice da dn dc,.slice ta xs.length tc] 32);rw [← hw1] at hb1;have g1:w0.grownBy w1 none:=by rw [hw1];exact jab _ _
     have hs0:w0.heap.size=w.heap.size+1:=by rw [hw0];simp
     rw [hs0] at hb1;have BT:Hid (∀ wx,w1.grownBy wx none→wx.heap[w.heap.size+1]?=some (.cells #[.int .i64 ty,.slice da dn dc,.slice ta xs.length tc] 32 (0,0))):=fun wx hg=>jaf hb1 hg;have G1:=jac (jaa g0.out g1);obtain ⟨n0,n1,n2,n3,n4⟩:=jai (n:=⟨op,nam,⟨ia,il,ic⟩,out,⟨ao,al,cap⟩⟩) (BX.out w1 g1);obtain ⟨t0,t1,t2⟩:=jaD hb1;have GR:=jac (GRP.out w1 G1.out);rw [hw1,hw0] at n0 n1 n2 n3 n4 t0 t1 t2;clear hb1 g1 GRP hs0;go_enter Tryz.func16,Tryz.ntmps16;go_wp2_with fail;rw [← hw0,← hw1];clear hw0 hw1 n0 n1 n2 n3 n4 t0 t1 t2;refine GR.out.mono ?_;rintro e w2 ⟨base,Bw,rs,hbase,rfl,hgr,hg2⟩;have HGR:=jac hgr;have G2:=jac hg2;clear hgr hg2 hbase GR;go_wp2;go_loopw [7,15] (fun s i wr=>∃ (k:Nat) (u:Sl),k≤C∧i=.int .i64 k∧s=.slice u.a u.n u.c∧jaT wr w2.heap.size u.v (jaZ f xs PL k)∧w2.grownBy wr none) (fun _ i _=>C - (intOf i).toNat)
     case atStart=>exact ⟨0,⟨none,0,0⟩,Nat.zero_le _,rfl,rfl,⟨⟨by simp [jaZ],.inl ⟨rfl,by simp [jaZ]⟩⟩,by simp [jaZ],fun z hz=>by simp [jaZ] at hz⟩,jae _⟩
     case round =>
      obtain ⟨k,⟨sa,sn,sc⟩,hk,rfl,rfl,ho,hg⟩:=hrel;simp only;have HO:=jac ho;have HG:=jac hg;have hsz:=hg.size
      by_cases hlt:k<C
      ·have gx:=jaa G1.out (jaa G2.out hg);obtain ⟨rc,-⟩:=(HGR.out.new hg).rd hlt;have EA:=(HGR.out.new hg).each k hlt;rw [jcu PL C PL.length k hlt] at EA;obtain ⟨⟨ra,rn,rcap⟩,hrv⟩ : ∃ s,s=rs.getD k jfp:=⟨_,rfl⟩
       rw [← hrv] at rc EA;simp only at rc;have hpos:=jd0 (ALL.out k hlt);have hle:=jel PL PL.length k;have PK:=jac (jcj ⟨ta,xs.length,tc⟩ ⟨ra,rn,rcap⟩ xs (jb6 PL PL.length k) wr (HXS.out.more gx) EA.ints (by omega) (fun z hz=>by have:=jce PL PL.length k z hz;omega));simp only at PK;have HST:=jac (jd1 f xs PL k);have hel:(jaZ f xs PL k).length=k:=by simp [jaZ]
       have RG:=HFR.out (jbc xs (jb6 PL PL.length k)) (fun y hy=>by
        unfold jbc at hy;obtain ⟨z,hz,rfl⟩:=List.mem_map.1 hy;have hzz:=jce PL PL.length k z hz;exact HXS.out.wf _ (by simp [List.getD,show z.toNat<xs.length by omega])) (by unfold jbc;rw [List.length_map];exact hpos) (by unfold jbc;rw [List.length_map];omega)
       have lp:0<(jbc xs (jb6 PL PL.length k)).length∧(jbc xs (jb6 PL PL.length k)).length≤65536:=by unfold jbc;rw [List.length_map];exact ⟨hpos,by omega⟩
       have CW:Hid (∀ (wx:World) (u:Sl),wr.grownBy wx none→jak wx u.v (jbc xs (jb6 PL PL.length k))→Calls Tryz.prog 29 #[.slice u.a u.n u.c,.pointer (some ⟨b,0,none⟩)] wx fun e w'=>e=.returned (.int .i64 (f (jbc xs (jb6 PL PL.length k))))∧wx.grownBy w' none):=fun wx u h1 h2=>HW.out wx u _ (jaa gx h1) h2 lp.1 lp.2;obtain ⟨t0,t1,t2⟩:=jaD (BT.out wr (jaa G2.out hg));obtain ⟨y,hy⟩ : ∃ y,y=f (jbc xs (jb6 PL PL.length k)):=⟨_,rfl⟩
       rw [← hy] at CW HST RG;unfold Rng at RG;have l1:(k:Int)<(C:Int):=by omega
       clear ho hg gx EA hrv hpos hle lp hy;go_wp2_with (first | (go_at_call 27;refine PK.out.mono ?_;rintro e w3 ⟨⟨pa,pn,pc⟩,rfl,hp3,hg3⟩;simp only) | fail);refine (CW.out w3 ⟨pa,pn,pc⟩ hg3 hp3).mono ?_;rintro e w4 ⟨rfl,hg4⟩;have h34:=jaa hg3 hg4;have HO4:=HO.out.more h34 (by cases (Sl.v ⟨sa,sn,sc⟩).ownBlock <;> simp)
       have HG4:=jac (jaa HG.out h34);have sz4:=h34.size;have OW:Hid (∀ o,(w4.alloc o).ownsRow w2.heap.size 2 1 (.slice sa sn sc) k ((jaZ f xs PL k).map (Value.int .i64))):=fun o=>jeI (HO4.more (jab _ o) (by cases (Sl.v ⟨sa,sn,sc⟩).ownBlock <;> simp)) hel
       have HLT:=jac (fun r (e:(Value.slice sa sn sc).ownBlock=some r)=>(World.ownsRow.lt HO4.1 r e).1);clear hp3 hg3 hg4 h34 HO4;go_wp2_with (first | (at_builtin;refine wpList_append_lies _ rfl (.tmp 19) (.tmp 26) 30 rfl w2.heap.size 2 i0 (.int .i64 0) 1 8 Tryz.underlying30 hi0 hz0 hz1 hz2 rfl (by decide) (.slice sa sn sc) k ((jaZ f xs PL k).map (Value.int .i64)) rfl (by exact OW.out _) ⟨w4.heap.size,0,none⟩ 1 1 [.int .i64 y] rfl rfl (by exact World.news_of_block (by have h:=heap_alloc_new w4 (.cells #[.int .i64 y] 2);simpa using h)) (jft y) (by omega) (by simp only [maxLen];omega) (by omega) (by simp;omega) (w4.heap.size+1) (by simp) ?_;intro gg cap8 w8 hown8 hgrow hat hlt8) | fail);have N1:=jac (jdk hel hown8 (by omega) HO.out.2.2 RG);have N2:=jac (jav (jaa HG4.out (jab _ _)) hgrow (fun r e=>HLT.out r e));clear hown8 hgrow hat hlt8 HLT OW;go_roundw
       case rel=>exact ⟨k+1,⟨some ⟨gg,0,none⟩,k+1,cap8⟩,by omega,by go_num,rfl,by rw [HST.out];exact N1.out,N2.out⟩
       case measure=>simp [intOf];omega
      ·have hke:k=C:=by omega
       subst hke;have gx:=jac (jaa G1.out (jaa G2.out hg));have hz:=jac (Nat.le_trans G1.out.size G2.out.size);clear ho hg;go_wp2;go_ret;exact ⟨⟨sa,sn,sc⟩,rfl,⟨jaL HO.out.1 hz.out,HO.out.2⟩,gx.out⟩
theorem jo0 (n : Nod) (A : At) (X : Ten) (x xs : List Int) (gone : List Bool) (f : List Int → Int) (b : Nat) (w : World) (hn : NodeOk w n A) (hx : jak w X.dv.v x) (hxs : jak w X.tv.v xs) (hf : Fine x) (hl : (xs.length : Int) = jbe x) (hax : jbD x.length (jaQ A x.length) (List.replicate x.length false) = some gone) (hgl : gone.length = x.length) (hF : ∀ ys : List Int, (∀ y ∈ ys, Rng y) → 0 < ys.length → ys.length ≤ 65536 → Rng (f ys))
    (W:∀ (wx:World) (u:Sl) (ys:List Int),w.grownBy wx none→jak wx u.v ys→0<ys.length→ys.length≤65536→Calls Tryz.prog 32 #[.slice u.a u.n u.c,.pointer (some ⟨b,0,none⟩)] wx fun e w'=>e=.returned (.int .i64 (f ys))∧wx.grownBy w' none) :
    Calls Tryz.prog 16 #[jax n,.agg #[.int .i64 X.ty,.slice X.dv.a X.dv.n X.dv.c,.slice X.tv.a X.tv.n X.tv.c],.func (.func 32) #[] #[.pointer (some ⟨b,0,none⟩)]] w fun e w'=>∃ s:Sl,e=.returned (.slice s.a s.n s.c)∧jaT w' w.heap.size s.v (jaZ f xs (plF x gone [0]) (jbA x gone))∧w.grownBy w' none:=by
     obtain ⟨i0,hi0,hz0,hz1,hz2⟩:=info_parts jct;obtain ⟨ty,⟨da,dn,dc⟩,⟨ta,tn,tc⟩⟩:=X;simp only [Sl.v] at hx hxs ⊢;have HX:=jac hx;have HXS:=jac hxs;have HW:=jac W;have HFR:=jac hF;have PL0:=jdD x.length x gone rfl hgl hf.pos;have ALL:=jac (jep x.length x gone rfl hgl hf.pos);have hpl:((plF x gone [0]).length:Int)=xs.length:=by rw [PL0.len,hl]
     have hc1:jbA x gone≤65536:=by have:=PL0.cnt;have:=hf.le;omega
     have hl1:xs.length≤65536:=by have:=hf.le;omega
     obtain ⟨_,_,exs,e1,e2,e3⟩:=hxs.sl;simp only [Value.slice.injEq] at exs;obtain ⟨rfl,rfl,rfl⟩:=exs;have GRP:Hid (∀ wx,w.grownBy wx none→Calls Tryz.prog 26 #[jax n,.slice da dn dc] wx fun e w'=>∃ (base Bw:Nat) (rs:List Sl),wx.heap.size≤base∧e=.returned (.slice (some ⟨Bw,0,none⟩) (jbA x gone) (jbA x gone))∧Gr w' base Bw (jbA x gone) (jh5 (plF x gone [0]) (jbA x gone) (plF x gone [0]).length) rs∧wx.grownBy w' none):=fun wx hg=>jci n A ⟨da,dn,dc⟩ x gone wx (hn.more hg) (hx.more hg) hf hax hgl;obtain ⟨PL,hPL⟩ : ∃ PL,PL=plF x gone [0]:=⟨_,rfl⟩
     obtain ⟨C,hC⟩ : ∃ C,C=jbA x gone:=⟨_,rfl⟩
     rw [← hPL] at GRP ALL hpl ⊢;rw [← hC] at GRP ALL hc1 ⊢;clear hx hxs W hF PL0 hPL hC hf hax hgl hl;have NK:=jac hn;obtain ⟨op,nam,⟨ia,il,ic⟩,out,⟨ao,al,cap⟩⟩:=n;unfold jax;simp only;obtain ⟨w0,hw0⟩ : ∃ w0,w0=w.alloc (.cells #[.string op,.string nam,.slice ia il ic,.string out,.slice ao al cap] 25):=⟨_,rfl⟩
     have g0:Hid (w.grownBy w0 none):=by show w.grownBy w0 none;rw [hw0];exact jab _ _
     have hb0:=heap_alloc_new w (.cells #[.string op,.string nam,.slice ia il ic,.string out,.slice ao al cap] 25);rw [← hw0] at hb0;have BX:Hid (∀ wx,w0.grownBy wx none→wx.heap[w.heap.size]?=some (.cells #[.string op,.string nam,.slice ia il ic,.string out,.slice ao al cap] 25 (0,0))):=fun wx hg=>jaf hb0 hg;clear hb0 hn;unfold jax at GRP;simp only at GRP;obtain ⟨w1,hw1⟩ : ∃ w1,w1=w0.alloc (.cells #[.int .i64 ty,.slice da dn dc,.slice ta xs.length tc] 32):=⟨_,rfl⟩
     have hb1:=heap_alloc_new w0 (.cells #[.int .i64 ty,.slice da dn dc,.slice ta xs.length tc] 32);rw [← hw1] at hb1;have g1:w0.grownBy w1 none:=by rw [hw1];exact jab _ _
     have hs0:w0.heap.size=w.heap.size+1:=by rw [hw0];simp
     rw [hs0] at hb1;have BT:Hid (∀ wx,w1.grownBy wx none→wx.heap[w.heap.size+1]?=some (.cells #[.int .i64 ty,.slice da dn dc,.slice ta xs.length tc] 32 (0,0))):=fun wx hg=>jaf hb1 hg;have G1:=jac (jaa g0.out g1);obtain ⟨n0,n1,n2,n3,n4⟩:=jai (n:=⟨op,nam,⟨ia,il,ic⟩,out,⟨ao,al,cap⟩⟩) (BX.out w1 g1);obtain ⟨t0,t1,t2⟩:=jaD hb1;have GR:=jac (GRP.out w1 G1.out);rw [hw1,hw0] at n0 n1 n2 n3 n4 t0 t1 t2;clear hb1 g1 GRP hs0;go_enter Tryz.func16,Tryz.ntmps16;go_wp2_with fail;rw [← hw0,← hw1];clear hw0 hw1 n0 n1 n2 n3 n4 t0 t1 t2;refine GR.out.mono ?_;rintro e w2 ⟨base,Bw,rs,hbase,rfl,hgr,hg2⟩;have HGR:=jac hgr;have G2:=jac hg2;clear hgr hg2 hbase GR;go_wp2;go_loopw [7,15] (fun s i wr=>∃ (k:Nat) (u:Sl),k≤C∧i=.int .i64 k∧s=.slice u.a u.n u.c∧jaT wr w2.heap.size u.v (jaZ f xs PL k)∧w2.grownBy wr none) (fun _ i _=>C - (intOf i).toNat)
     case atStart=>exact ⟨0,⟨none,0,0⟩,Nat.zero_le _,rfl,rfl,⟨⟨by simp [jaZ],.inl ⟨rfl,by simp [jaZ]⟩⟩,by simp [jaZ],fun z hz=>by simp [jaZ] at hz⟩,jae _⟩
     case round =>
      obtain ⟨k,⟨sa,sn,sc⟩,hk,rfl,rfl,ho,hg⟩:=hrel;simp only;have HO:=jac ho;have HG:=jac hg;have hsz:=hg.size
      by_cases hlt:k<C
      ·have gx:=jaa G1.out (jaa G2.out hg);obtain ⟨rc,-⟩:=(HGR.out.new hg).rd hlt;have EA:=(HGR.out.new hg).each k hlt;rw [jcu PL C PL.length k hlt] at EA;obtain ⟨⟨ra,rn,rcap⟩,hrv⟩ : ∃ s,s=rs.getD k jfp:=⟨_,rfl⟩
       rw [← hrv] at rc EA;simp only at rc;have hpos:=jd0 (ALL.out k hlt);have hle:=jel PL PL.length k;have PK:=jac (jcj ⟨ta,xs.length,tc⟩ ⟨ra,rn,rcap⟩ xs (jb6 PL PL.length k) wr (HXS.out.more gx) EA.ints (by omega) (fun z hz=>by have:=jce PL PL.length k z hz;omega));simp only at PK;have HST:=jac (jd1 f xs PL k);have hel:(jaZ f xs PL k).length=k:=by simp [jaZ]
       have RG:=HFR.out (jbc xs (jb6 PL PL.length k)) (fun y hy=>by
        unfold jbc at hy;obtain ⟨z,hz,rfl⟩:=List.mem_map.1 hy;have hzz:=jce PL PL.length k z hz;exact HXS.out.wf _ (by simp [List.getD,show z.toNat<xs.length by omega])) (by unfold jbc;rw [List.length_map];exact hpos) (by unfold jbc;rw [List.length_map];omega)
       have lp:0<(jbc xs (jb6 PL PL.length k)).length∧(jbc xs (jb6 PL PL.length k)).length≤65536:=by unfold jbc;rw [List.length_map];exact ⟨hpos,by omega⟩
       have CW:Hid (∀ (wx:World) (u:Sl),wr.grownBy wx none→jak wx u.v (jbc xs (jb6 PL PL.length k))→Calls Tryz.prog 32 #[.slice u.a u.n u.c,.pointer (some ⟨b,0,none⟩)] wx fun e w'=>e=.returned (.int .i64 (f (jbc xs (jb6 PL PL.length k))))∧wx.grownBy w' none):=fun wx u h1 h2=>HW.out wx u _ (jaa gx h1) h2 lp.1 lp.2;obtain ⟨t0,t1,t2⟩:=jaD (BT.out wr (jaa G2.out hg));obtain ⟨y,hy⟩ : ∃ y,y=f (jbc xs (jb6 PL PL.length k)):=⟨_,rfl⟩
       rw [← hy] at CW HST RG;unfold Rng at RG;have l1:(k:Int)<(C:Int):=by omega
       clear ho hg gx EA hrv hpos hle lp hy;go_wp2_with (first | (go_at_call 27;refine PK.out.mono ?_;rintro e w3 ⟨⟨pa,pn,pc⟩,rfl,hp3,hg3⟩;simp only) | fail);refine (CW.out w3 ⟨pa,pn,pc⟩ hg3 hp3).mono ?_;rintro e w4 ⟨rfl,hg4⟩;have h34:=jaa hg3 hg4;have HO4:=HO.out.more h34 (by cases (Sl.v ⟨sa,sn,sc⟩).ownBlock <;> simp)
       have HG4:=jac (jaa HG.out h34);have sz4:=h34.size;have OW:Hid (∀ o,(w4.alloc o).ownsRow w2.heap.size 2 1 (.slice sa sn sc) k ((jaZ f xs PL k).map (Value.int .i64))):=fun o=>jeI (HO4.more (jab _ o) (by cases (Sl.v ⟨sa,sn,sc⟩).ownBlock <;> simp)) hel
       have HLT:=jac (fun r (e:(Value.slice sa sn sc).ownBlock=some r)=>(World.ownsRow.lt HO4.1 r e).1);clear hp3 hg3 hg4 h34 HO4;go_wp2_with (first | (at_builtin;refine wpList_append_lies _ rfl (.tmp 19) (.tmp 26) 30 rfl w2.heap.size 2 i0 (.int .i64 0) 1 8 Tryz.underlying30 hi0 hz0 hz1 hz2 rfl (by decide) (.slice sa sn sc) k ((jaZ f xs PL k).map (Value.int .i64)) rfl (by exact OW.out _) ⟨w4.heap.size,0,none⟩ 1 1 [.int .i64 y] rfl rfl (by exact World.news_of_block (by have h:=heap_alloc_new w4 (.cells #[.int .i64 y] 2);simpa using h)) (jft y) (by omega) (by simp only [maxLen];omega) (by omega) (by simp;omega) (w4.heap.size+1) (by simp) ?_;intro gg cap8 w8 hown8 hgrow hat hlt8) | fail);have N1:=jac (jdk hel hown8 (by omega) HO.out.2.2 RG);have N2:=jac (jav (jaa HG4.out (jab _ _)) hgrow (fun r e=>HLT.out r e));clear hown8 hgrow hat hlt8 HLT OW;go_roundw
       case rel=>exact ⟨k+1,⟨some ⟨gg,0,none⟩,k+1,cap8⟩,by omega,by go_num,rfl,by rw [HST.out];exact N1.out,N2.out⟩
       case measure=>simp [intOf];omega
      ·have hke:k=C:=by omega
       subst hke;have gx:=jac (jaa G1.out (jaa G2.out hg));have hz:=jac (Nat.le_trans G1.out.size G2.out.size);clear ho hg;go_wp2;go_ret;exact ⟨⟨sa,sn,sc⟩,rfl,⟨jaL HO.out.1 hz.out,HO.out.2⟩,gx.out⟩
theorem jo1 (n : Nod) (A : At) (X : Ten) (x xs : List Int) (gone : List Bool) (f : List Int → Int) (b : Nat) (w : World) (hn : NodeOk w n A) (hx : jak w X.dv.v x) (hxs : jak w X.tv.v xs) (hf : Fine x) (hl : (xs.length : Int) = jbe x) (hax : jbD x.length (jaQ A x.length) (List.replicate x.length false) = some gone) (hgl : gone.length = x.length) (hF : ∀ ys : List Int, (∀ y ∈ ys, Rng y) → 0 < ys.length → ys.length ≤ 65536 → Rng (f ys))
    (W:∀ (wx:World) (u:Sl) (ys:List Int),w.grownBy wx none→jak wx u.v ys→0<ys.length→ys.length≤65536→Calls Tryz.prog 33 #[.slice u.a u.n u.c,.pointer (some ⟨b,0,none⟩)] wx fun e w'=>e=.returned (.int .i64 (f ys))∧wx.grownBy w' none) :
    Calls Tryz.prog 16 #[jax n,.agg #[.int .i64 X.ty,.slice X.dv.a X.dv.n X.dv.c,.slice X.tv.a X.tv.n X.tv.c],.func (.func 33) #[] #[.pointer (some ⟨b,0,none⟩)]] w fun e w'=>∃ s:Sl,e=.returned (.slice s.a s.n s.c)∧jaT w' w.heap.size s.v (jaZ f xs (plF x gone [0]) (jbA x gone))∧w.grownBy w' none:=by
     obtain ⟨i0,hi0,hz0,hz1,hz2⟩:=info_parts jct;obtain ⟨ty,⟨da,dn,dc⟩,⟨ta,tn,tc⟩⟩:=X;simp only [Sl.v] at hx hxs ⊢;have HX:=jac hx;have HXS:=jac hxs;have HW:=jac W;have HFR:=jac hF;have PL0:=jdD x.length x gone rfl hgl hf.pos;have ALL:=jac (jep x.length x gone rfl hgl hf.pos);have hpl:((plF x gone [0]).length:Int)=xs.length:=by rw [PL0.len,hl]
     have hc1:jbA x gone≤65536:=by have:=PL0.cnt;have:=hf.le;omega
     have hl1:xs.length≤65536:=by have:=hf.le;omega
     obtain ⟨_,_,exs,e1,e2,e3⟩:=hxs.sl;simp only [Value.slice.injEq] at exs;obtain ⟨rfl,rfl,rfl⟩:=exs;have GRP:Hid (∀ wx,w.grownBy wx none→Calls Tryz.prog 26 #[jax n,.slice da dn dc] wx fun e w'=>∃ (base Bw:Nat) (rs:List Sl),wx.heap.size≤base∧e=.returned (.slice (some ⟨Bw,0,none⟩) (jbA x gone) (jbA x gone))∧Gr w' base Bw (jbA x gone) (jh5 (plF x gone [0]) (jbA x gone) (plF x gone [0]).length) rs∧wx.grownBy w' none):=fun wx hg=>jci n A ⟨da,dn,dc⟩ x gone wx (hn.more hg) (hx.more hg) hf hax hgl;obtain ⟨PL,hPL⟩ : ∃ PL,PL=plF x gone [0]:=⟨_,rfl⟩
     obtain ⟨C,hC⟩ : ∃ C,C=jbA x gone:=⟨_,rfl⟩
     rw [← hPL] at GRP ALL hpl ⊢;rw [← hC] at GRP ALL hc1 ⊢;clear hx hxs W hF PL0 hPL hC hf hax hgl hl;have NK:=jac hn;obtain ⟨op,nam,⟨ia,il,ic⟩,out,⟨ao,al,cap⟩⟩:=n;unfold jax;simp only;obtain ⟨w0,hw0⟩ : ∃ w0,w0=w.alloc (.cells #[.string op,.string nam,.slice ia il ic,.string out,.slice ao al cap] 25):=⟨_,rfl⟩
     have g0:Hid (w.grownBy w0 none):=by show w.grownBy w0 none;rw [hw0];exact jab _ _
     have hb0:=heap_alloc_new w (.cells #[.string op,.string nam,.slice ia il ic,.string out,.slice ao al cap] 25);rw [← hw0] at hb0;have BX:Hid (∀ wx,w0.grownBy wx none→wx.heap[w.heap.size]?=some (.cells #[.string op,.string nam,.slice ia il ic,.string out,.slice ao al cap] 25 (0,0))):=fun wx hg=>jaf hb0 hg;clear hb0 hn;unfold jax at GRP;simp only at GRP;obtain ⟨w1,hw1⟩ : ∃ w1,w1=w0.alloc (.cells #[.int .i64 ty,.slice da dn dc,.slice ta xs.length tc] 32):=⟨_,rfl⟩
     have hb1:=heap_alloc_new w0 (.cells #[.int .i64 ty,.slice da dn dc,.slice ta xs.length tc] 32);rw [← hw1] at hb1;have g1:w0.grownBy w1 none:=by rw [hw1];exact jab _ _
     have hs0:w0.heap.size=w.heap.size+1:=by rw [hw0];simp
     rw [hs0] at hb1;have BT:Hid (∀ wx,w1.grownBy wx none→wx.heap[w.heap.size+1]?=some (.cells #[.int .i64 ty,.slice da dn dc,.slice ta xs.length tc] 32 (0,0))):=fun wx hg=>jaf hb1 hg;have G1:=jac (jaa g0.out g1);obtain ⟨n0,n1,n2,n3,n4⟩:=jai (n:=⟨op,nam,⟨ia,il,ic⟩,out,⟨ao,al,cap⟩⟩) (BX.out w1 g1);obtain ⟨t0,t1,t2⟩:=jaD hb1;have GR:=jac (GRP.out w1 G1.out);rw [hw1,hw0] at n0 n1 n2 n3 n4 t0 t1 t2;clear hb1 g1 GRP hs0;go_enter Tryz.func16,Tryz.ntmps16;go_wp2_with fail;rw [← hw0,← hw1];clear hw0 hw1 n0 n1 n2 n3 n4 t0 t1 t2;refine GR.out.mono ?_;rintro e w2 ⟨base,Bw,rs,hbase,rfl,hgr,hg2⟩;have HGR:=jac hgr;have G2:=jac hg2;clear hgr hg2 hbase GR;go_wp2;go_loopw [7,15] (fun s i wr=>∃ (k:Nat) (u:Sl),k≤C∧i=.int .i64 k∧s=.slice u.a u.n u.c∧jaT wr w2.heap.size u.v (jaZ f xs PL k)∧w2.grownBy wr none) (fun _ i _=>C - (intOf i).toNat)
     case atStart=>exact ⟨0,⟨none,0,0⟩,Nat.zero_le _,rfl,rfl,⟨⟨by simp [jaZ],.inl ⟨rfl,by simp [jaZ]⟩⟩,by simp [jaZ],fun z hz=>by simp [jaZ] at hz⟩,jae _⟩
     case round =>
      obtain ⟨k,⟨sa,sn,sc⟩,hk,rfl,rfl,ho,hg⟩:=hrel;simp only;have HO:=jac ho;have HG:=jac hg;have hsz:=hg.size
      by_cases hlt:k<C
      ·have gx:=jaa G1.out (jaa G2.out hg);obtain ⟨rc,-⟩:=(HGR.out.new hg).rd hlt;have EA:=(HGR.out.new hg).each k hlt;rw [jcu PL C PL.length k hlt] at EA;obtain ⟨⟨ra,rn,rcap⟩,hrv⟩ : ∃ s,s=rs.getD k jfp:=⟨_,rfl⟩
       rw [← hrv] at rc EA;simp only at rc;have hpos:=jd0 (ALL.out k hlt);have hle:=jel PL PL.length k;have PK:=jac (jcj ⟨ta,xs.length,tc⟩ ⟨ra,rn,rcap⟩ xs (jb6 PL PL.length k) wr (HXS.out.more gx) EA.ints (by omega) (fun z hz=>by have:=jce PL PL.length k z hz;omega));simp only at PK;have HST:=jac (jd1 f xs PL k);have hel:(jaZ f xs PL k).length=k:=by simp [jaZ]
       have RG:=HFR.out (jbc xs (jb6 PL PL.length k)) (fun y hy=>by
        unfold jbc at hy;obtain ⟨z,hz,rfl⟩:=List.mem_map.1 hy;have hzz:=jce PL PL.length k z hz;exact HXS.out.wf _ (by simp [List.getD,show z.toNat<xs.length by omega])) (by unfold jbc;rw [List.length_map];exact hpos) (by unfold jbc;rw [List.length_map];omega)
       have lp:0<(jbc xs (jb6 PL PL.length k)).length∧(jbc xs (jb6 PL PL.length k)).length≤65536:=by unfold jbc;rw [List.length_map];exact ⟨hpos,by omega⟩
       have CW:Hid (∀ (wx:World) (u:Sl),wr.grownBy wx none→jak wx u.v (jbc xs (jb6 PL PL.length k))→Calls Tryz.prog 33 #[.slice u.a u.n u.c,.pointer (some ⟨b,0,none⟩)] wx fun e w'=>e=.returned (.int .i64 (f (jbc xs (jb6 PL PL.length k))))∧wx.grownBy w' none):=fun wx u h1 h2=>HW.out wx u _ (jaa gx h1) h2 lp.1 lp.2;obtain ⟨t0,t1,t2⟩:=jaD (BT.out wr (jaa G2.out hg));obtain ⟨y,hy⟩ : ∃ y,y=f (jbc xs (jb6 PL PL.length k)):=⟨_,rfl⟩
       rw [← hy] at CW HST RG;unfold Rng at RG;have l1:(k:Int)<(C:Int):=by omega
       clear ho hg gx EA hrv hpos hle lp hy;go_wp2_with (first | (go_at_call 27;refine PK.out.mono ?_;rintro e w3 ⟨⟨pa,pn,pc⟩,rfl,hp3,hg3⟩;simp only) | fail);refine (CW.out w3 ⟨pa,pn,pc⟩ hg3 hp3).mono ?_;rintro e w4 ⟨rfl,hg4⟩;have h34:=jaa hg3 hg4;have HO4:=HO.out.more h34 (by cases (Sl.v ⟨sa,sn,sc⟩).ownBlock <;> simp)
       have HG4:=jac (jaa HG.out h34);have sz4:=h34.size;have OW:Hid (∀ o,(w4.alloc o).ownsRow w2.heap.size 2 1 (.slice sa sn sc) k ((jaZ f xs PL k).map (Value.int .i64))):=fun o=>jeI (HO4.more (jab _ o) (by cases (Sl.v ⟨sa,sn,sc⟩).ownBlock <;> simp)) hel
       have HLT:=jac (fun r (e:(Value.slice sa sn sc).ownBlock=some r)=>(World.ownsRow.lt HO4.1 r e).1);clear hp3 hg3 hg4 h34 HO4;go_wp2_with (first | (at_builtin;refine wpList_append_lies _ rfl (.tmp 19) (.tmp 26) 30 rfl w2.heap.size 2 i0 (.int .i64 0) 1 8 Tryz.underlying30 hi0 hz0 hz1 hz2 rfl (by decide) (.slice sa sn sc) k ((jaZ f xs PL k).map (Value.int .i64)) rfl (by exact OW.out _) ⟨w4.heap.size,0,none⟩ 1 1 [.int .i64 y] rfl rfl (by exact World.news_of_block (by have h:=heap_alloc_new w4 (.cells #[.int .i64 y] 2);simpa using h)) (jft y) (by omega) (by simp only [maxLen];omega) (by omega) (by simp;omega) (w4.heap.size+1) (by simp) ?_;intro gg cap8 w8 hown8 hgrow hat hlt8) | fail);have N1:=jac (jdk hel hown8 (by omega) HO.out.2.2 RG);have N2:=jac (jav (jaa HG4.out (jab _ _)) hgrow (fun r e=>HLT.out r e));clear hown8 hgrow hat hlt8 HLT OW;go_roundw
       case rel=>exact ⟨k+1,⟨some ⟨gg,0,none⟩,k+1,cap8⟩,by omega,by go_num,rfl,by rw [HST.out];exact N1.out,N2.out⟩
       case measure=>simp [intOf];omega
      ·have hke:k=C:=by omega
       subst hke;have gx:=jac (jaa G1.out (jaa G2.out hg));have hz:=jac (Nat.le_trans G1.out.size G2.out.size);clear ho hg;go_wp2;go_ret;exact ⟨⟨sa,sn,sc⟩,rfl,⟨jaL HO.out.1 hz.out,HO.out.2⟩,gx.out⟩
theorem jm4 (n : Nod) (A : At) (X : Ten) (x xs : List Int) (gone : List Bool) (f : List Int → Int) (_b : Nat) (w : World) (hn : NodeOk w n A) (hx : jak w X.dv.v x) (hxs : jak w X.tv.v xs) (hf : Fine x) (hl : (xs.length : Int) = jbe x) (hax : jbD x.length (jaQ A x.length) (List.replicate x.length false) = some gone) (hgl : gone.length = x.length) (hF : ∀ ys : List Int, (∀ y ∈ ys, Rng y) → 0 < ys.length → ys.length ≤ 65536 → Rng (f ys))
    (W:∀ (wx:World) (u:Sl) (ys:List Int),w.grownBy wx none→jak wx u.v ys→0<ys.length→ys.length≤65536→Calls Tryz.prog 18 #[.slice u.a u.n u.c] wx fun e w'=>e=.returned (.int .i64 (f ys))∧wx.grownBy w' none) :
    Calls Tryz.prog 16 #[jax n,.agg #[.int .i64 X.ty,.slice X.dv.a X.dv.n X.dv.c,.slice X.tv.a X.tv.n X.tv.c],.func (.func 18) #[] #[]] w fun e w'=>∃ s:Sl,e=.returned (.slice s.a s.n s.c)∧jaT w' w.heap.size s.v (jaZ f xs (plF x gone [0]) (jbA x gone))∧w.grownBy w' none:=by
     obtain ⟨i0,hi0,hz0,hz1,hz2⟩:=info_parts jct;obtain ⟨ty,⟨da,dn,dc⟩,⟨ta,tn,tc⟩⟩:=X;simp only [Sl.v] at hx hxs ⊢;have HX:=jac hx;have HXS:=jac hxs;have HW:=jac W;have HFR:=jac hF;have PL0:=jdD x.length x gone rfl hgl hf.pos;have ALL:=jac (jep x.length x gone rfl hgl hf.pos);have hpl:((plF x gone [0]).length:Int)=xs.length:=by rw [PL0.len,hl]
     have hc1:jbA x gone≤65536:=by have:=PL0.cnt;have:=hf.le;omega
     have hl1:xs.length≤65536:=by have:=hf.le;omega
     obtain ⟨_,_,exs,e1,e2,e3⟩:=hxs.sl;simp only [Value.slice.injEq] at exs;obtain ⟨rfl,rfl,rfl⟩:=exs;have GRP:Hid (∀ wx,w.grownBy wx none→Calls Tryz.prog 26 #[jax n,.slice da dn dc] wx fun e w'=>∃ (base Bw:Nat) (rs:List Sl),wx.heap.size≤base∧e=.returned (.slice (some ⟨Bw,0,none⟩) (jbA x gone) (jbA x gone))∧Gr w' base Bw (jbA x gone) (jh5 (plF x gone [0]) (jbA x gone) (plF x gone [0]).length) rs∧wx.grownBy w' none):=fun wx hg=>jci n A ⟨da,dn,dc⟩ x gone wx (hn.more hg) (hx.more hg) hf hax hgl;obtain ⟨PL,hPL⟩ : ∃ PL,PL=plF x gone [0]:=⟨_,rfl⟩
     obtain ⟨C,hC⟩ : ∃ C,C=jbA x gone:=⟨_,rfl⟩
     rw [← hPL] at GRP ALL hpl ⊢;rw [← hC] at GRP ALL hc1 ⊢;clear hx hxs W hF PL0 hPL hC hf hax hgl hl;have NK:=jac hn;obtain ⟨op,nam,⟨ia,il,ic⟩,out,⟨ao,al,cap⟩⟩:=n;unfold jax;simp only;obtain ⟨w0,hw0⟩ : ∃ w0,w0=w.alloc (.cells #[.string op,.string nam,.slice ia il ic,.string out,.slice ao al cap] 25):=⟨_,rfl⟩
     have g0:Hid (w.grownBy w0 none):=by show w.grownBy w0 none;rw [hw0];exact jab _ _
     have hb0:=heap_alloc_new w (.cells #[.string op,.string nam,.slice ia il ic,.string out,.slice ao al cap] 25);rw [← hw0] at hb0;have BX:Hid (∀ wx,w0.grownBy wx none→wx.heap[w.heap.size]?=some (.cells #[.string op,.string nam,.slice ia il ic,.string out,.slice ao al cap] 25 (0,0))):=fun wx hg=>jaf hb0 hg;clear hb0 hn;unfold jax at GRP;simp only at GRP;obtain ⟨w1,hw1⟩ : ∃ w1,w1=w0.alloc (.cells #[.int .i64 ty,.slice da dn dc,.slice ta xs.length tc] 32):=⟨_,rfl⟩
     have hb1:=heap_alloc_new w0 (.cells #[.int .i64 ty,.slice da dn dc,.slice ta xs.length tc] 32);rw [← hw1] at hb1;have g1:w0.grownBy w1 none:=by rw [hw1];exact jab _ _
     have hs0:w0.heap.size=w.heap.size+1:=by rw [hw0];simp
     rw [hs0] at hb1;have BT:Hid (∀ wx,w1.grownBy wx none→wx.heap[w.heap.size+1]?=some (.cells #[.int .i64 ty,.slice da dn dc,.slice ta xs.length tc] 32 (0,0))):=fun wx hg=>jaf hb1 hg;have G1:=jac (jaa g0.out g1);obtain ⟨n0,n1,n2,n3,n4⟩:=jai (n:=⟨op,nam,⟨ia,il,ic⟩,out,⟨ao,al,cap⟩⟩) (BX.out w1 g1);obtain ⟨t0,t1,t2⟩:=jaD hb1;have GR:=jac (GRP.out w1 G1.out);rw [hw1,hw0] at n0 n1 n2 n3 n4 t0 t1 t2;clear hb1 g1 GRP hs0;go_enter Tryz.func16,Tryz.ntmps16;go_wp2_with fail;rw [← hw0,← hw1];clear hw0 hw1 n0 n1 n2 n3 n4 t0 t1 t2;refine GR.out.mono ?_;rintro e w2 ⟨base,Bw,rs,hbase,rfl,hgr,hg2⟩;have HGR:=jac hgr;have G2:=jac hg2;clear hgr hg2 hbase GR;go_wp2;go_loopw [7,15] (fun s i wr=>∃ (k:Nat) (u:Sl),k≤C∧i=.int .i64 k∧s=.slice u.a u.n u.c∧jaT wr w2.heap.size u.v (jaZ f xs PL k)∧w2.grownBy wr none) (fun _ i _=>C - (intOf i).toNat)
     case atStart=>exact ⟨0,⟨none,0,0⟩,Nat.zero_le _,rfl,rfl,⟨⟨by simp [jaZ],.inl ⟨rfl,by simp [jaZ]⟩⟩,by simp [jaZ],fun z hz=>by simp [jaZ] at hz⟩,jae _⟩
     case round =>
      obtain ⟨k,⟨sa,sn,sc⟩,hk,rfl,rfl,ho,hg⟩:=hrel;simp only;have HO:=jac ho;have HG:=jac hg;have hsz:=hg.size
      by_cases hlt:k<C
      ·have gx:=jaa G1.out (jaa G2.out hg);obtain ⟨rc,-⟩:=(HGR.out.new hg).rd hlt;have EA:=(HGR.out.new hg).each k hlt;rw [jcu PL C PL.length k hlt] at EA;obtain ⟨⟨ra,rn,rcap⟩,hrv⟩ : ∃ s,s=rs.getD k jfp:=⟨_,rfl⟩
       rw [← hrv] at rc EA;simp only at rc;have hpos:=jd0 (ALL.out k hlt);have hle:=jel PL PL.length k;have PK:=jac (jcj ⟨ta,xs.length,tc⟩ ⟨ra,rn,rcap⟩ xs (jb6 PL PL.length k) wr (HXS.out.more gx) EA.ints (by omega) (fun z hz=>by have:=jce PL PL.length k z hz;omega));simp only at PK;have HST:=jac (jd1 f xs PL k);have hel:(jaZ f xs PL k).length=k:=by simp [jaZ]
       have RG:=HFR.out (jbc xs (jb6 PL PL.length k)) (fun y hy=>by
        unfold jbc at hy;obtain ⟨z,hz,rfl⟩:=List.mem_map.1 hy;have hzz:=jce PL PL.length k z hz;exact HXS.out.wf _ (by simp [List.getD,show z.toNat<xs.length by omega])) (by unfold jbc;rw [List.length_map];exact hpos) (by unfold jbc;rw [List.length_map];omega)
       have lp:0<(jbc xs (jb6 PL PL.length k)).length∧(jbc xs (jb6 PL PL.length k)).length≤65536:=by unfold jbc;rw [List.length_map];exact ⟨hpos,by omega⟩
       have CW:Hid (∀ (wx:World) (u:Sl),wr.grownBy wx none→jak wx u.v (jbc xs (jb6 PL PL.length k))→Calls Tryz.prog 18 #[.slice u.a u.n u.c] wx fun e w'=>e=.returned (.int .i64 (f (jbc xs (jb6 PL PL.length k))))∧wx.grownBy w' none):=fun wx u h1 h2=>HW.out wx u _ (jaa gx h1) h2 lp.1 lp.2;obtain ⟨t0,t1,t2⟩:=jaD (BT.out wr (jaa G2.out hg));obtain ⟨y,hy⟩ : ∃ y,y=f (jbc xs (jb6 PL PL.length k)):=⟨_,rfl⟩
       rw [← hy] at CW HST RG;unfold Rng at RG;have l1:(k:Int)<(C:Int):=by omega
       clear ho hg gx EA hrv hpos hle lp hy;go_wp2_with (first | (go_at_call 27;refine PK.out.mono ?_;rintro e w3 ⟨⟨pa,pn,pc⟩,rfl,hp3,hg3⟩;simp only) | fail);refine (CW.out w3 ⟨pa,pn,pc⟩ hg3 hp3).mono ?_;rintro e w4 ⟨rfl,hg4⟩;have h34:=jaa hg3 hg4;have HO4:=HO.out.more h34 (by cases (Sl.v ⟨sa,sn,sc⟩).ownBlock <;> simp)
       have HG4:=jac (jaa HG.out h34);have sz4:=h34.size;have OW:Hid (∀ o,(w4.alloc o).ownsRow w2.heap.size 2 1 (.slice sa sn sc) k ((jaZ f xs PL k).map (Value.int .i64))):=fun o=>jeI (HO4.more (jab _ o) (by cases (Sl.v ⟨sa,sn,sc⟩).ownBlock <;> simp)) hel
       have HLT:=jac (fun r (e:(Value.slice sa sn sc).ownBlock=some r)=>(World.ownsRow.lt HO4.1 r e).1);clear hp3 hg3 hg4 h34 HO4;go_wp2_with (first | (at_builtin;refine wpList_append_lies _ rfl (.tmp 19) (.tmp 26) 30 rfl w2.heap.size 2 i0 (.int .i64 0) 1 8 Tryz.underlying30 hi0 hz0 hz1 hz2 rfl (by decide) (.slice sa sn sc) k ((jaZ f xs PL k).map (Value.int .i64)) rfl (by exact OW.out _) ⟨w4.heap.size,0,none⟩ 1 1 [.int .i64 y] rfl rfl (by exact World.news_of_block (by have h:=heap_alloc_new w4 (.cells #[.int .i64 y] 2);simpa using h)) (jft y) (by omega) (by simp only [maxLen];omega) (by omega) (by simp;omega) (w4.heap.size+1) (by simp) ?_;intro gg cap8 w8 hown8 hgrow hat hlt8) | fail);have N1:=jac (jdk hel hown8 (by omega) HO.out.2.2 RG);have N2:=jac (jav (jaa HG4.out (jab _ _)) hgrow (fun r e=>HLT.out r e));clear hown8 hgrow hat hlt8 HLT OW;go_roundw
       case rel=>exact ⟨k+1,⟨some ⟨gg,0,none⟩,k+1,cap8⟩,by omega,by go_num,rfl,by rw [HST.out];exact N1.out,N2.out⟩
       case measure=>simp [intOf];omega
      ·have hke:k=C:=by omega
       subst hke;have gx:=jac (jaa G1.out (jaa G2.out hg));have hz:=jac (Nat.le_trans G1.out.size G2.out.size);clear ho hg;go_wp2;go_ret;exact ⟨⟨sa,sn,sc⟩,rfl,⟨jaL HO.out.1 hz.out,HO.out.2⟩,gx.out⟩
end Go.Proofs.YtekocmdfaaoggaaGreatDoor
namespace Go.Proofs.YtekocmdfaaoggaaGreatDoor
open Go.RowKit
def W64y (x:Int):Prop := -9223372036854775808≤x∧x≤9223372036854775807
theorem jd2 (op:BinOp) (x y:Nat):Nu.chk 1 (Nu.tobO (floatBits op .f32 x y))=true:=by
 cases h:floatBits op .f32 x y with
 | none=>decide
 | some r =>
  have:=floatBits_wf h;exact Nu.chk_tob r (by simpa [Lit.wf] using this)
theorem jpL (x:Int):Nu.fb x<4294967296:=by
 unfold Nu.fb;omega
theorem jo2 (x y:Nat) (hx:x<4294967296) (hy:y<4294967296):Nu.chk 1 (Nu.maxF x y)=true:=by
 unfold Nu.maxF
 split
 ·decide
 ·exact Nu.chk_tob y hy
 ·exact Nu.chk_tob x hx
 ·split
  ·exact Nu.chk_tob y hy
  ·exact Nu.chk_tob x hx
theorem jdl (k:Nat) (x y:Int) (hk:k=0∨k=1∨k=2∨k=3∨k=4):Nu.chk 1 (Nu.bin k 1 x y).1=true:=by
 unfold Nu.bin
 split
 ·rw [if_pos rfl]
  rcases hk with rfl | rfl | rfl | rfl | rfl
  ·exact jd2 _ _ _
  ·exact jd2 _ _ _
  ·exact jd2 _ _ _
  ·exact jd2 _ _ _
  ·exact jo2 _ _ (jpL x) (jpL y)
 ·decide
theorem jeL {v:Int} (h:Nu.chk 1 v=true):W64y v:=by
 have h2:(0≤v∧v<4294967296):=by
  unfold Nu.chk at h;simp at h;omega
 exact ⟨by omega,by omega⟩
theorem jhV (op:ByteArray) (ty:Int) (w:World):Calls Tryz.prog 37 #[.string op,.int .i64 ty] w fun e w'=>e=.returned (.func (.func 57) #[] #[.pointer (some ⟨w.heap.size,0,none⟩),.pointer (some ⟨w.heap.size+1,0,none⟩)])∧w.grownBy w' none∧jdZ op ty w' w.heap.size (w.heap.size+1):=by
 have hmf:∀ (fn:Fn) (first cap:Array Value) (w:World),(Instr.makeFunc fn first cap).run Tryz.prog w=.ok (.func fn first cap) w:=fun _ _ _ _=>rfl;have B2:=jac (jaJ w (.cells #[.string op] 9) (.cells #[.int .i64 ty] 3));have G2:=jac (jaa (jab w (.cells #[.string op] 9)) (jab _ (.cells #[.int .i64 ty] 3)));go_enter Tryz.func37,Tryz.ntmps37;go_wp2;go_ret;exact ⟨rfl,G2.out,B2.out.1,B2.out.2⟩
theorem jm5 (p1 p2:Nat) (x:Int) (hx:Nu.chk 1 x=true) (w:World) (h:jdZ ⟨#[69,120,112]⟩ 1 w p1 p2):Calls Tryz.prog 57 #[.int .i64 x,.pointer (some ⟨p1,0,none⟩),.pointer (some ⟨p2,0,none⟩)] w fun e w'=>∃ r:Int,e=.returned (.int .i64 r)∧Nu.chk 1 r=true∧w.grownBy w' none:=by
 have c1:=jaN h.1;have c2:=jaN h.2;have BB:=jac (fun (wx:World)=>Nu.unary7_1 x wx hx);clear h hx;go_enter Tryz.func57,Tryz.ntmps57;go_wp2_with (first | (go_at_call 58;refine (BB.out _).mono ?_;rintro e w' ⟨r,q,hr,rfl,rfl⟩) | fail);have HR:=jac (Nu.chk_tob r hr);clear hr;go_ret;exact ⟨_,rfl,HR.out,⟨rfl,rfl,rfl,Nat.le_refl _,fun k hk hn=>rfl⟩⟩
theorem jkL (p1 p2:Nat) (x:Int) (hx:Nu.chk 1 x=true) (w:World) (h:jdZ ⟨#[83,113,114,116]⟩ 1 w p1 p2):Calls Tryz.prog 57 #[.int .i64 x,.pointer (some ⟨p1,0,none⟩),.pointer (some ⟨p2,0,none⟩)] w fun e w'=>∃ r:Int,e=.returned (.int .i64 r)∧Nu.chk 1 r=true∧w.grownBy w' none:=by
 have c1:=jaN h.1;have c2:=jaN h.2;have BB:=jac (fun (wx:World)=>Nu.unary5_1 x wx hx);clear h hx;go_enter Tryz.func57,Tryz.ntmps57;go_wp2_with (first | (go_at_call 58;refine (BB.out _).mono ?_;rintro e w' ⟨r,q,hr,rfl,rfl⟩) | fail);have HR:=jac (Nu.chk_tob r hr);clear hr;go_ret;exact ⟨_,rfl,HR.out,⟨rfl,rfl,rfl,Nat.le_refl _,fun k hk hn=>rfl⟩⟩
theorem jg3 {ys:List Int} {k:Nat} {v:Int} (h:∀ y∈ys,Nu.chk 1 y=true) (hv:Nu.chk 1 v=true):∀ y∈ys.set k v,Nu.chk 1 y=true:=fun y hy=>by
 rcases List.mem_or_eq_of_mem_set hy with q | rfl
 ·exact h y q
 ·exact hv
theorem ji0 (n:Nat):∀ y∈List.replicate n (0:Int),Nu.chk 1 y=true:=fun y hy=>by
 rw [(List.mem_replicate.1 hy).2]
 decide
theorem jkM (u:Sl) (xs:List Int) (w:World) (hx:jak w u.v xs) (h0:0<xs.length) (hl:xs.length≤65536):Calls Tryz.prog 36 #[.slice u.a u.n u.c] w fun e w'=>∃ (s:Sl) (ys:List Int),e=.returned (.slice s.a s.n s.c)∧jaT w' w.heap.size s.v ys∧ys.length=xs.length∧(∀ y∈ys,Nu.chk 1 y=true)∧w.grownBy w' none:=by
 obtain ⟨i0,hi0,hz0,hz1,hz2⟩:=info_parts jct;obtain ⟨ua,un,uc⟩:=u;obtain ⟨_,_,eu,c1,c2,c3⟩:=hx.sl;simp only [Sl.v,Value.slice.injEq] at eu;obtain ⟨rfl,rfl,rfl⟩:=eu;obtain ⟨xb,xo,rfl,hc⟩:=hx.get (k:=0) h0;have HX:=jac hx;have H0:=jac h0;have XC:Hid (∀ (wx:World) (k:Nat),w.grownBy wx none→k<xs.length→wx.cell? ⟨xb,xo+k,none⟩=some (.int .i64 (xs.getD k 0))):=fun wx k hg hk=>jad (hc k hk) hg;have T2:=jac (fun op w=>jcS op 1 w);have T1:=jac (fun w=>jhV ⟨#[69,120,112]⟩ 1 w);have GT:=jac (fun w=>jda 1 w);have SM:=jac (fun w=>jg1 1 w);have hb4:i0.bytes*xs.length≤281474976710656:=by rw [hz2];omega
 have hb5:xs.length≤maxLen:=by simp only [maxLen];omega
 have HL:=jac hl;clear hx hc h0 hl;go_enter Tryz.func36,Tryz.ntmps36;go_wp2_with fail;refine (T2.out ⟨#[83,117,98]⟩ w).mono ?_;rintro e w1 ⟨rfl,hg1,a1,a2⟩;go_wp2_with fail;refine (T1.out w1).mono ?_;rintro e w2 ⟨rfl,hg2,b12⟩;go_wp2_with fail;refine (T2.out ⟨#[68,105,118]⟩ w2).mono ?_;rintro e w3 ⟨rfl,hg3,d1,d2⟩;go_wp2_with fail;refine (GT.out w3).mono ?_;rintro e w4 ⟨b,rfl,ob,hg4⟩;have g24:=jaa hg3 hg4;have g14:=jaa hg2 g24;have G4:=jaa hg1 g14;have SS:=jac (jg0 (p1:=w.heap.size) (p2:=w.heap.size+1) (w:=w4) ⟨jaf a1 g14,jaf a2 g14⟩);have SE:=jac (b12.more g24);have SD:=jac (jeJ (p1:=w2.heap.size) (p2:=w2.heap.size+1) (w:=w4) ⟨jaf d1 hg4,jaf d2 hg4⟩);have GM:=jac (jcU _ b ⟨some ⟨xb,xo,none⟩,xs.length,uc⟩ xs w4 (HX.out.more G4) H0.out ob);obtain ⟨mo,hmo⟩ : ∃ q,q=jqO (fun x y=>(Nu.bin 4 1 x y).1) xs:=⟨_,rfl⟩
 rw [← hmo] at GM;have HG4:=jac G4;simp only at GM;clear hg1 a1 a2 hg2 b12 hg3 d1 d2 ob hg4 g24 g14 G4 T2 T1 GT hmo H0;go_wp2_with fail;refine GM.out.mono ?_;rintro e w5 ⟨rfl,hg5⟩;have G5:=jac hg5;clear GM hg5;go_wp2_with (first | (refine wpList_make_full _ rfl (.tmp 20) (.tmp 20) 30 rfl w5.heap.size 2 i0 (.int .i64 0) 1 Tryz.underlying30 hi0 hz0 hz1 .i64 .i64 _ _ xs.length rfl rfl (by first | rfl | omega) (by first | rfl | omega) hb4 hb5 (Nat.le_refl _) ?_;intro w6 hown6 hg6));rw [jbJ] at hown6
 have O1:Hid (jaT w6 w5.heap.size (.slice (some ⟨w5.heap.size,0,none⟩) xs.length xs.length) (List.replicate xs.length 0)):=by
  have hl:=HL.out;refine ⟨by rw [List.length_replicate];exact hown6,by rw [List.length_replicate];omega,fun z hz=>?_⟩;rw [(List.mem_replicate.1 hz).2];omega
 have G6:=jac hg6;clear hown6 hg6 hb4 hb5;go_wp2;go_loopw [24] (fun i wr=>w5.grownBy wr none∧∃ (k:Nat) (ys:List Int),k≤xs.length∧i=.int .i64 k∧ys.length=xs.length∧(∀ y∈ys,Nu.chk 1 y=true)∧jaT wr w5.heap.size (.slice (some ⟨w5.heap.size,0,none⟩) xs.length xs.length) ys) (fun i _=>xs.length - (intOf i).toNat)
 case atStart=>exact ⟨G6.out,0,_,by omega,rfl,List.length_replicate ..,ji0 _,O1.out⟩
 case round =>
  obtain ⟨hg,k,ys,hk,rfl,hyl,hyc,o1⟩:=hrel;have HG:=jac hg;have P1:=jac o1;have YL:=jac hyl;have YC:=jac hyc;clear o1 hyl hyc
  by_cases hlt:k<xs.length
  ·have gx:=jaa G5.out hg;have hcell:=XC.out wr k (jaa HG4.out gx) hlt;obtain ⟨xk,hxk⟩ : ∃ q,q=xs.getD k 0:=⟨_,rfl⟩
   rw [← hxk] at hcell;have S1:=jac (SS.out xk mo wr gx);have RC:=jac (jdl 1 xk mo (by decide));obtain ⟨r1,hr1⟩ : ∃ q,q=(Nu.bin 1 1 xk mo).1:=⟨_,rfl⟩
   simp only at S1;rw [← hr1] at S1 RC;have E1:Hid (∀ wx,wr.grownBy wx none→Calls Tryz.prog 57 #[.int .i64 r1,.pointer (some ⟨w1.heap.size,0,none⟩),.pointer (some ⟨w1.heap.size+1,0,none⟩)] wx fun e w'=>∃ r:Int,e=.returned (.int .i64 r)∧Nu.chk 1 r=true∧wx.grownBy w' none):=fun wx h=>jm5 _ _ r1 RC.out wx (SE.out.more (jaa gx h))
   have PT:Hid (∀ (w8:World) (r:Int),wr.grownBy w8 none→Nu.chk 1 r=true→∃ ov:Int,w8.cell? ⟨w5.heap.size,k,none⟩=some (.int .i64 ov)∧w8.frozen? ⟨w5.heap.size,k,none⟩=false∧jaT (w8.setCell ⟨w5.heap.size,k,none⟩ (.int .i64 r)) w5.heap.size (.slice (some ⟨w5.heap.size,0,none⟩) xs.length xs.length) (ys.set k r)∧w5.grownBy (w8.setCell ⟨w5.heap.size,k,none⟩ (.int .i64 r)) none):=fun w8 r h hr=>by
    have q:=P1.out.more h (.inr (by simp [Value.ownBlock]));obtain ⟨a1,a2,a3,a4⟩:=q.put YL.out hlt r (jeL hr);exact ⟨_,a1,a2,a3,jaq (jaa HG.out h) a4 (Nat.le_refl _)⟩
   have l1:(k:Int)<(xs.length:Int):=by omega
   clear hg gx hr1 hxk;go_wp2_with fail;refine S1.out.mono ?_;rintro e w7 ⟨rfl,hg7⟩;go_wp2_with fail;refine (E1.out w7 hg7).mono ?_;rintro e w8 ⟨r,rfl,hr,hg8⟩;obtain ⟨ov,a1,a2,a3,a4⟩:=PT.out w8 r (jaa hg7 hg8) hr;have N1:=jac a3;have N2:=jac a4;have N3:=jac (jg3 (k:=k) YC.out hr);clear hg7 hg8 a3 a4 PT S1 E1 hr;go_wp2_with fail;go_roundw
   case rel=>exact ⟨N2.out,k+1,ys.set k r,by omega,by go_num,by rw [List.length_set];exact YL.out,N3.out,N1.out⟩
   case measure=>simp [intOf];omega
  ·have hke:k=xs.length:=by omega
   subst hke;obtain ⟨wz,ewz⟩ : ∃ z,z=wr:=⟨_,rfl⟩
   subst ewz;have SM1:=jac (SM.out wz);clear hg;go_wp2_with fail;refine SM1.out.mono ?_;rintro e w9 ⟨b9,rfl,ob9,hg9⟩;have q9:=P1.out.more hg9 (.inr (by simp [Value.ownBlock]));have S9:=jac (jeK _ b9 ⟨some ⟨w5.heap.size,0,none⟩,xs.length,xs.length⟩ ys w9 q9.ints ob9);simp only at S9;obtain ⟨al,hal⟩ : ∃ q,q=ys.foldl (fun x y=>(Nu.bin 0 1 x y).1) 0:=⟨_,rfl⟩
   rw [← hal] at S9;have Q9:=jac q9;have G9:=jac (jaa HG.out hg9);clear ob9 hg9 q9 SM1 P1 HG hal;go_wp2_with fail;refine S9.out.mono ?_;rintro e wA ⟨rfl,hgA⟩;have QA:=jac (Q9.out.more hgA (.inr (by simp [Value.ownBlock])));have GA:=jac (jaa G9.out hgA);clear hgA S9 Q9 G9;go_wp2;go_loopw [44] (fun i wr=>w5.grownBy wr none∧∃ (k:Nat) (ys:List Int),k≤xs.length∧i=.int .i64 k∧ys.length=xs.length∧(∀ y∈ys,Nu.chk 1 y=true)∧jaT wr w5.heap.size (.slice (some ⟨w5.heap.size,0,none⟩) xs.length xs.length) ys) (fun i _=>xs.length - (intOf i).toNat)
   case atStart=>exact ⟨GA.out,0,ys,by omega,rfl,YL.out,YC.out,QA.out⟩
   case round =>
    clear YL YC QA GA;obtain ⟨hg,k,ys,hk,rfl,hyl,hyc,o1⟩:=hrel;have HG:=jac hg;have P1:=jac o1;have YL:=jac hyl;have YC:=jac hyc
    by_cases hlt:k<xs.length
    ·have gx:=jaa G5.out hg;obtain ⟨b',off,eb,hcc⟩:=o1.ints.get (k:=k) (by omega);have hcell:=hcc k (by omega);obtain ⟨yk,hyk⟩ : ∃ q,q=ys.getD k 0:=⟨_,rfl⟩
     rw [← hyk] at hcell;have eb1:b'=w5.heap.size:=by have:=(Option.some.inj eb);injection this with h1 h2;exact h1.symm
     have eb2:off=0:=by have:=(Option.some.inj eb);injection this with h1 h2;exact h2.symm
     rw [eb1,eb2,Nat.zero_add] at hcell;have S1:=jac (SD.out yk al wr gx);have RC:=jac (jdl 3 yk al (by decide));obtain ⟨r1,hr1⟩ : ∃ q,q=(Nu.bin 3 1 yk al).1:=⟨_,rfl⟩
     simp only at S1;rw [← hr1] at S1 RC
     have PT:Hid (∀ (w8:World),wr.grownBy w8 none→∃ ov:Int,w8.cell? ⟨w5.heap.size,k,none⟩=some (.int .i64 ov)∧w8.frozen? ⟨w5.heap.size,k,none⟩=false∧jaT (w8.setCell ⟨w5.heap.size,k,none⟩ (.int .i64 r1)) w5.heap.size (.slice (some ⟨w5.heap.size,0,none⟩) xs.length xs.length) (ys.set k r1)∧w5.grownBy (w8.setCell ⟨w5.heap.size,k,none⟩ (.int .i64 r1)) none):=fun w8 h=>by
      have q:=P1.out.more h (.inr (by simp [Value.ownBlock]));obtain ⟨a1,a2,a3,a4⟩:=q.put YL.out hlt r1 (jeL RC.out);exact ⟨_,a1,a2,a3,jaq (jaa HG.out h) a4 (Nat.le_refl _)⟩
     have l1:(k:Int)<(xs.length:Int):=by omega
     clear hg gx o1 hcc eb eb1 eb2 hyl hyc hr1 hyk;go_wp2_with fail;refine S1.out.mono ?_;rintro e w7 ⟨rfl,hg7⟩;obtain ⟨ov,a1,a2,a3,a4⟩:=PT.out w7 hg7;have N1:=jac a3;have N2:=jac a4;have N3:=jac (jg3 (k:=k) YC.out RC.out);clear hg7 a3 a4 PT S1 RC;go_wp2_with fail;go_roundw
     case rel=>exact ⟨N2.out,k+1,ys.set k r1,by omega,by go_num,by rw [List.length_set];exact YL.out,N3.out,N1.out⟩
     case measure=>simp [intOf];omega
    ·have hke:k=xs.length:=by omega
     subst hke;have hz:=jac (Nat.le_trans HG4.out.size G5.out.size);clear hg o1 hyl hyc;go_wp2;go_ret;exact ⟨⟨some ⟨w5.heap.size,0,none⟩,xs.length,xs.length⟩,ys,rfl,⟨jaL P1.out.1 hz.out,P1.out.2⟩,YL.out,YC.out,jaa HG4.out (jaa G5.out HG.out)⟩
end Go.Proofs.YtekocmdfaaoggaaGreatDoor
namespace Go.Proofs.YtekocmdfaaoggaaGreatDoor
open Go.RowKit
theorem ji1 (n:Nod) (A:At) (X:Ten) (x xs:List Int) (gone:List Bool) (w:World) (hn:NodeOk w n A) (hx:jak w X.dv.v x) (hxs:jak w X.tv.v xs) (hf:Fine x) (hl:(xs.length:Int)=jbe x) (hax:jbD x.length (jaQ A x.length) (List.replicate x.length false)=some gone) (hgl:gone.length=x.length) :
    Calls Tryz.prog 21 #[jax n,.agg #[.int .i64 X.ty,.slice X.dv.a X.dv.n X.dv.c,.slice X.tv.a X.tv.n X.tv.c]] w fun e w'=>∃ (s:Sl) (zs:List Int),e=.returned (.slice s.a s.n s.c)∧jaT w' w.heap.size s.v zs∧zs.length=xs.length∧(∀ z∈zs,Nu.chk 1 z=true)∧w.grownBy w' none:=by
     obtain ⟨i0,hi0,hz0,hz1,hz2⟩:=info_parts jct;obtain ⟨ty,⟨da,dn,dc⟩,⟨ta,tn,tc⟩⟩:=X;simp only [Sl.v] at hx hxs ⊢;have HXS:=jac hxs;have PL0:=jdD x.length x gone rfl hgl hf.pos;have ALL:=jac (jep x.length x gone rfl hgl hf.pos);have hpl:((plF x gone [0]).length:Int)=xs.length:=by rw [PL0.len,hl]
     have hc1:jbA x gone≤65536:=by have:=PL0.cnt;have:=hf.le;omega
     have hl1:xs.length≤65536:=by have:=hf.le;omega
     obtain ⟨_,_,exs,e1,e2,e3⟩:=hxs.sl;simp only [Value.slice.injEq] at exs;obtain ⟨rfl,rfl,rfl⟩:=exs;have GRP:Hid (∀ wx,w.grownBy wx none→Calls Tryz.prog 26 #[jax n,.slice da dn dc] wx fun e w'=>∃ (base Bw:Nat) (rs:List Sl),wx.heap.size≤base∧e=.returned (.slice (some ⟨Bw,0,none⟩) (jbA x gone) (jbA x gone))∧Gr w' base Bw (jbA x gone) (jh5 (plF x gone [0]) (jbA x gone) (plF x gone [0]).length) rs∧wx.grownBy w' none):=fun wx hg=>jci n A ⟨da,dn,dc⟩ x gone wx (hn.more hg) (hx.more hg) hf hax hgl;obtain ⟨PL,hPL⟩ : ∃ PL,PL=plF x gone [0]:=⟨_,rfl⟩
     obtain ⟨C,hC⟩ : ∃ C,C=jbA x gone:=⟨_,rfl⟩
     rw [← hPL] at GRP ALL hpl;rw [← hC] at GRP ALL hc1;have HPLL:=jac hpl;have HL1:=jac hl1;have HC1:Hid (C≤65536):=hc1;have hb4:i0.bytes*xs.length≤281474976710656:=by rw [hz2];omega
     have hb5:xs.length≤maxLen:=by simp only [maxLen];omega
     clear hx hxs PL0 hPL hC hf hax hgl hl hpl hl1 hc1;have NK:=jac hn;obtain ⟨op,nam,⟨ia,il,ic⟩,out,⟨ao,al,cap⟩⟩:=n;unfold jax;simp only;obtain ⟨w0,hw0⟩ : ∃ w0,w0=w.alloc (.cells #[.string op,.string nam,.slice ia il ic,.string out,.slice ao al cap] 25):=⟨_,rfl⟩
     have g0:Hid (w.grownBy w0 none):=by show w.grownBy w0 none;rw [hw0];exact jab _ _
     have hb0:=heap_alloc_new w (.cells #[.string op,.string nam,.slice ia il ic,.string out,.slice ao al cap] 25);rw [← hw0] at hb0;have BX:Hid (∀ wx,w0.grownBy wx none→wx.heap[w.heap.size]?=some (.cells #[.string op,.string nam,.slice ia il ic,.string out,.slice ao al cap] 25 (0,0))):=fun wx hg=>jaf hb0 hg;clear hb0 hn;unfold jax at GRP;simp only at GRP;obtain ⟨w1,hw1⟩ : ∃ w1,w1=w0.alloc (.cells #[.int .i64 ty,.slice da dn dc,.slice ta xs.length tc] 32):=⟨_,rfl⟩
     have hb1:=heap_alloc_new w0 (.cells #[.int .i64 ty,.slice da dn dc,.slice ta xs.length tc] 32);rw [← hw1] at hb1;have g1:w0.grownBy w1 none:=by rw [hw1];exact jab _ _
     have hs0:w0.heap.size=w.heap.size+1:=by rw [hw0];simp
     rw [hs0] at hb1;have BT:Hid (∀ wx,w1.grownBy wx none→wx.heap[w.heap.size+1]?=some (.cells #[.int .i64 ty,.slice da dn dc,.slice ta xs.length tc] 32 (0,0))):=fun wx hg=>jaf hb1 hg;have BN:Hid (∀ wx,w1.grownBy wx none→wx.heap[w.heap.size]?=some (.cells #[.string op,.string nam,.slice ia il ic,.string out,.slice ao al cap] 25 (0,0))):=fun wx hg=>BX.out wx (jaa g1 hg);have G1:=jac (jaa g0.out g1);have hs1:Hid (w1.heap.size=w.heap.size+1+1):=by show _=_;rw [hw1,World.size_alloc,hs0]
     obtain ⟨t0,t1,t2⟩:=jaD hb1;rw [hw1,hw0] at t0 t1 t2;clear hb1 g1 hs0 BX;go_enter Tryz.func21,Tryz.ntmps21;go_wp2_with (first | (refine wpList_make_full _ rfl (.tmp 12) (.tmp 12) 30 rfl w1.heap.size 2 i0 (.int .i64 0) 1 Tryz.underlying30 hi0 hz0 hz1 .i64 .i64 _ _ xs.length rfl rfl (by first | rfl | omega) (by first | rfl | omega) hb4 hb5 (by rw [hw1,hw0];exact Nat.le_refl _) ?_;rw [← hw0,← hw1];intro w2 hown2 hg2;obtain ⟨t0,t1,t2⟩:=jaD (BT.out w2 hg2);obtain ⟨n0,n1,n2,n3,n4⟩:=jai (n:=⟨op,nam,⟨ia,il,ic⟩,out,⟨ao,al,cap⟩⟩) (BN.out w2 hg2)));rw [jbJ] at hown2
     have O1:Hid (jaT w2 w1.heap.size (.slice (some ⟨w1.heap.size,0,none⟩) xs.length xs.length) (List.replicate xs.length 0)):=by
      have hl:=HL1.out;refine ⟨by rw [List.length_replicate];exact hown2,by rw [List.length_replicate];omega,fun z hz=>?_⟩;rw [(List.mem_replicate.1 hz).2];omega
     have G2:=jac hg2;have GR:=jac (GRP.out w2 (jaa G1.out hg2));clear hown2 hg2 hb4 hb5 hw0 hw1 GRP;refine GR.out.mono ?_;rintro e w3 ⟨base,Bw,rs,hbase,rfl,hgr,hg3⟩;have HGR:=jac hgr;have G3:=jac hg3;have O3:=jac (O1.out.more hg3 (.inr (by simp [Value.ownBlock])))
     have hb12:Hid (w1.heap.size<base):=by
      have h:=O1.out.1.lt w1.heap.size rfl;show _<_;omega
     clear hgr hg3 hbase GR t0 t1 t2 n0 n1 n2 n3 n4;rw [← hs1.out];go_wp2;go_loopw [19] (fun i wr=>∃ (k:Nat) (zs:List Int),k≤C∧i=.int .i64 k∧zs.length=xs.length∧(∀ z∈zs,Nu.chk 1 z=true)∧w1.grownBy wr none∧w3.grownBy wr (some w1.heap.size)∧jaT wr w1.heap.size (.slice (some ⟨w1.heap.size,0,none⟩) xs.length xs.length) zs) (fun i _=>C - (intOf i).toNat)
     case atStart=>exact ⟨0,_,by omega,rfl,List.length_replicate ..,ji0 _,jaa G2.out G3.out,World.grownBy.refl _ _,O3.out⟩
     case round =>
      obtain ⟨k,zs,hk,rfl,hzl,hzc,hg,hgw,o1⟩:=hrel;have ZL:=jac hzl;have ZC:=jac hzc;clear hzl hzc
      by_cases hlt:k<C
      ·have HO:=jac o1;have HG:=jac hg;have HGW:=jac hgw;have EA:=HGR.out.each k hlt;rw [jcu PL C PL.length k hlt] at EA;obtain ⟨⟨ra,rn,rcap⟩,hrv⟩ : ∃ s,s=rs.getD k jfp:=⟨_,rfl⟩
       rw [← hrv] at EA;have nb:Bw≠w1.heap.size:=by have h:=(HGR.out.row.lt Bw rfl).1;have:=hb12.out;omega
       have row':=World.ownsRow.kept HGR.out.row hgw (Or.inr (by simp only [Value.ownBlock,ne_eq,Option.some.injEq];exact nb))
       have rc':wr.cell? ⟨Bw,k,none⟩=some (.slice ra rn rcap):=by
        have hl:=HGR.out.len;rw [World.ownsRow.cellAt row' k (by omega),List.getElem?_map,List.getElem?_eq_getElem (by omega),Option.map_some];have e:rs[k]=⟨ra,rn,rcap⟩:=by rw [hrv];simp [List.getD,hl,hlt]
        rw [e]
       have hpos:=jd0 (ALL.out k hlt);have hle:=jel PL PL.length k;have hmem:=jce PL PL.length k;have hpll:=HPLL.out;have hl1:=HL1.out;obtain ⟨ns,hns⟩ : ∃ ns,ns=jb6 PL PL.length k:=⟨_,rfl⟩
       rw [← hns] at EA hpos hle hmem;have EW:Hid (∀ wx,wr.grownBy wx (some w1.heap.size)→Owns wx base (.slice ra rn rcap) ns):=fun wx h=>(EA.more hgw (jcf fun g e e2=>by have:=(EA.lt g e).1;have:=hb12.out;injection e2 with e2;omega)).more h (jcf fun g e e2=>by have:=(EA.lt g e).1;have:=hb12.out;injection e2 with e2;omega);have E0:=(EW.out wr (World.grownBy.refl _ _)).ints;obtain ⟨_,_,en,-⟩:=E0.sl;simp only [Value.slice.injEq] at en;obtain ⟨rfl,rfl,rfl⟩:=en;have PK:=jac (jcj ⟨ta,xs.length,tc⟩ ⟨ra,ns.length,rcap⟩ xs ns wr (HXS.out.more (jaa G1.out hg)) E0 (by omega) (fun z hz=>by have:=hmem z hz;omega));simp only at PK;have pl1:(jbc xs ns).length=ns.length:=by unfold jbc;rw [List.length_map]
       have PN:=jac pl1;have NB:Hid (0<ns.length∧ns.length≤65536):=⟨hpos,by omega⟩
       obtain ⟨t0,t1,t2⟩:=jaD (BT.out wr hg);obtain ⟨nb',no,hra,-⟩:=E0.get (k:=0) hpos;subst hra
       have NC:Hid (∀ (wx:World) (j:Nat),wr.grownBy wx (some w1.heap.size)→j<ns.length→∃ t:Nat,t<xs.length∧wx.cell? ⟨nb',no+j,none⟩=some (.int .i64 (t:Int))):=fun wx j h hj=>by
        obtain ⟨b2,o2,e2,hc2⟩:=(EW.out wx h).ints.get (k:=0) hpos;have eq:=Option.some.inj e2
        injection eq with q1 q2
        have hm:=hmem (ns.getD j 0) (by rw [List.getD,List.getElem?_eq_getElem hj];exact List.getElem_mem hj);obtain ⟨t,ht⟩:=Int.eq_ofNat_of_zero_le hm.1;refine ⟨t,by omega,?_⟩;rw [q1,q2,hc2 j hj,ht]
       have l1:(k:Int)<(C:Int):=by omega
       clear hrv nb row' EA EW E0 o1 hg hgw hmem hle hns hpll hl1 pl1 hpos;go_wp2_with fail;refine PK.out.mono ?_;rintro e w4 ⟨⟨pa,pn,pc⟩,rfl,hp4,hg4⟩;have SH:=jac (jkM ⟨pa,pn,pc⟩ (jbc xs ns) w4 hp4 (by rw [PN.out];exact NB.out.1) (by rw [PN.out];exact NB.out.2));simp only at SH ⊢;have G4:=jac hg4;clear PK hp4 hg4 t0 t1 t2 rc';go_wp2_with fail;refine SH.out.mono ?_;rintro e w5 ⟨⟨sa,sn,sc⟩,ys,rfl,os,hyl,hyc,hg5⟩;rw [PN.out] at hyl;obtain ⟨_,_,esn,-⟩:=os.ints.sl;simp only [Sl.v,Value.slice.injEq] at esn;rw [hyl] at esn;obtain ⟨rfl,rfl,rfl⟩:=esn;obtain ⟨sb,so,hsa,-⟩:=os.ints.get (k:=0) (by rw [hyl];exact NB.out.1);simp only at hsa;subst hsa;have YL:=jac hyl;have YC:=jac hyc;have g45:=jaa G4.out hg5;have OS:=jac os;have O5:=jac (HO.out.more g45 (.inr (by simp [Value.ownBlock])));have h14:w1.heap.size<w4.heap.size:=by have h:=HO.out.1.lt w1.heap.size rfl;have:=G4.out.size;omega
       have SC:Hid (∀ (wx:World) (j:Nat),w5.grownBy wx (some w1.heap.size)→j<ns.length→wx.cell? ⟨sb,so+j,none⟩=some (.int .i64 (ys.getD j 0))):=fun wx j h hj=>by
        have q:=OS.out.more h (jcf fun g e e2=>by have:=(World.ownsRow.lt OS.out.1 g e).1;injection e2 with e2;omega);obtain ⟨b2,o2,e2,hc2⟩:=q.ints.get (k:=0) (by rw [YL.out];exact NB.out.1);simp only at e2;have eq:=Option.some.inj e2
        injection eq with q1 q2
        rw [q1,q2,hc2 j (by rw [YL.out];exact hj)]
       have G5:=jac g45;have G15:=jac (jaa HG.out g45);clear os hg5 g45 SH h14 G4 hyl hyc;simp only;go_wp2;go_loopw [29] (fun i wx=>∃ (j:Nat) (zs:List Int),j≤ns.length∧i=.int .i64 j∧zs.length=xs.length∧(∀ z∈zs,Nu.chk 1 z=true)∧w1.grownBy wx none∧w5.grownBy wx (some w1.heap.size)∧jaT wx w1.heap.size (.slice (some ⟨w1.heap.size,0,none⟩) xs.length xs.length) zs) (fun i _=>ns.length - (intOf i).toNat)
       case atStart=>exact ⟨0,zs,by omega,rfl,ZL.out,ZC.out,G15.out,World.grownBy.refl _ _,O5.out⟩
       case round =>
        clear ZL ZC;obtain ⟨j,zs,hj,rfl,hzl,hzc,hg,hgw,o1⟩:=hrel;have ZL:=jac hzl;have ZC:=jac hzc
        by_cases hlt2:j<ns.length
        ·have c1:=SC.out wr j hgw hlt2;obtain ⟨t,htl,c2⟩:=NC.out wr j (jaI (jck G5.out) hgw) hlt2;have hyk:Nu.chk 1 (ys.getD j 0)=true:=YC.out _ (by rw [List.getD,List.getElem?_eq_getElem (by rw [YL.out];exact hlt2)];exact List.getElem_mem _);obtain ⟨yj,hyj⟩ : ∃ q,q=ys.getD j 0:=⟨_,rfl⟩
         rw [← hyj] at c1 hyk;obtain ⟨a1,a2,a3,a4⟩:=o1.put hzl htl yj (jeL hyk);have N1:=jac a3;have N2:=jac (jaq hg a4 (Nat.le_refl _));have N3:=jac (jaI hgw a4);have N4:=jac (jg3 (k:=t) ZC.out hyk);have l1:(j:Int)<(ns.length:Int):=by omega
         have l2:(t:Int)<(xs.length:Int):=by omega
         clear hg hgw o1 a3 a4 hyj hyk hzl hzc;have nb9:=NB.out.2;go_wp2_with fail;go_roundw
         case rel=>exact ⟨j+1,zs.set t yj,by omega,by go_num,by rw [List.length_set];exact ZL.out,N4.out,N2.out,N3.out,N1.out⟩
         case measure=>simp [intOf];omega
        ·have hje:j=ns.length:=by omega
         subst hje;have N1:=jac o1;have N2:=jac hg;have N3:=jac (jaI HGW.out (jaI (jck G5.out) hgw));clear hg hgw o1 hzl hzc;have nb9:=HC1.out;go_wp2_with fail;go_roundw
         case rel=>exact ⟨k+1,zs,by omega,by go_num,ZL.out,ZC.out,N2.out,N3.out,N1.out⟩
         case measure=>simp [intOf];omega
      ·have hke:k=C:=by omega
       subst hke;have N1:=jac o1;have N2:=jac hg;have hz:=jac G1.out.size;clear o1 hg hgw;go_wp2;go_ret;exact ⟨⟨some ⟨w1.heap.size,0,none⟩,xs.length,xs.length⟩,zs,rfl,⟨jaL N1.out.1 hz.out,N1.out.2⟩,ZL.out,ZC.out,jaa G1.out N2.out⟩
end Go.Proofs.YtekocmdfaaoggaaGreatDoor
namespace Go.Proofs.YtekocmdfaaoggaaGreatDoor
open Go.RowKit
def FltQ (m:Nat) (w:World) (e:Ending) (w':World):Prop:=w.grownBy w' none∧∃ (s:Sl) (zs:List Int),e=.returned (.tuple #[.slice s.a s.n s.c,.int .i64 0])∧jaT w' w.heap.size s.v zs∧zs.length=m∧∀ z∈zs,Nu.chk 1 z=true
theorem jkN (n:Nod) (A:At) (hop:n.op=⟨#[83,111,102,116,109,97,120]⟩) (u:Sl) (T0:Ten) (x xs:List Int) (gone:List Bool) (nam0:ByteArray) (vty:Int) (dv:Sl) (w:World) (hno:NodeOk w n A) (hv:TensIn w u.v [(T0,(x,xs))]) (hf:Fine x) (hl:(xs.length:Int)=jbe x) (hax:jbD x.length (jaQ A x.length) (List.replicate x.length false)=some gone) (hgl:gone.length=x.length) :
    Calls Tryz.prog 10 #[jax n,.slice u.a u.n u.c,.agg #[.string nam0,.int .i64 vty,.slice dv.a dv.n dv.c]] w (FltQ xs.length w):=by
     obtain ⟨za,zn,zc⟩:=dv;obtain ⟨xa,xc,e1,p1,p2,p3⟩:=hv.vals.form;obtain ⟨ua,un,uc⟩:=u;simp only [Sl.v,List.map_cons,List.map_nil,List.length_cons,List.length_nil,Value.slice.injEq] at e1;obtain ⟨rfl,rfl,rfl⟩:=e1;obtain ⟨ub,uo,rfl⟩:=hv.vals.addr (k:=0) (by simp);obtain ⟨t0,t1,t2⟩:=hv.at 0 (by simp);have HH0:=jac (hv.has (T0,(x,xs)) (by simp));obtain ⟨tx,⟨xda,xdn,xdc⟩,⟨xta,xtn,xtc⟩⟩:=T0;simp only [List.getElem_cons_zero,Nat.zero_mul,Nat.add_zero] at t0 t1 t2 HH0;have EC:Hid (∀ (wx:World),w.grownBy wx none→Calls Tryz.prog 21 #[jax n,.agg #[.int .i64 tx,.slice xda xdn xdc,.slice xta xtn xtc]] wx fun e w'=>∃ (s:Sl) (zs:List Int),e=.returned (.slice s.a s.n s.c)∧jaT w' wx.heap.size s.v zs∧zs.length=xs.length∧(∀ z∈zs,Nu.chk 1 z=true)∧wx.grownBy w' none):=fun wx hx=>ji1 n A ⟨tx,⟨xda,xdn,xdc⟩,⟨xta,xtn,xtc⟩⟩ x xs gone wx (hno.more hx) (HH0.out.1.more hx) (HH0.out.2.more hx) hf hl hax hgl;obtain ⟨op,nam,⟨ia,il,ic⟩,out,⟨ao,al,cap⟩⟩:=n;simp only at hop;subst hop;unfold jax at EC ⊢;simp only at EC ⊢;obtain ⟨w0,hw0⟩ : ∃ w0,w0=(w.alloc (.cells #[.string ⟨#[83,111,102,116,109,97,120]⟩,.string nam,.slice ia il ic,.string out,.slice ao al cap] 25)).alloc (.cells #[.string nam0,.int .i64 vty,.slice za zn zc] 50):=⟨_,rfl⟩
     have g0:w.grownBy w0 none:=by rw [hw0];exact jaa (jab _ _) (jab _ _)
     have hbx:=jaJ w (.cells #[.string ⟨#[83,111,102,116,109,97,120]⟩,.string nam,.slice ia il ic,.string out,.slice ao al cap] 25) (.cells #[.string nam0,.int .i64 vty,.slice za zn zc] 50);rw [← hw0] at hbx;obtain ⟨n0,n1,n2,n3,n4⟩:=jai (n:=⟨⟨#[83,111,102,116,109,97,120]⟩,nam,⟨ia,il,ic⟩,out,⟨ao,al,cap⟩⟩) hbx.1;have t0:=jad t0 g0;have t1:=jad t1 g0;have t2:=jad t2 g0;have G0:=jac g0;have i0':(0:Int)<1:=by decide
     clear hbx hv hno hax g0 p1 p2 p3 hf hl hgl HH0;rw [hw0] at n0;go_enter Tryz.func10,Tryz.ntmps10
     go_upto_region 11 with fail
     rw [← hw0];rw [← hw0] at n0;clear hw0;refine wp_region_held_drew (S:=fun w'=>w0.grownBy w' none) (by kernel_rfl) (jag (jae _)) (fun hHeld=>?_);refine tkC 0 ?_ (hv:=by intro wS hSw;have c0:=jad n0 hSw;have c1:=jad n1 hSw;have c2:=jad n2 hSw;have c3:=jad n3 hSw;have c4:=jad n4 hSw;go_simp;(try with_reducible rfl))
     try simp only [Act.put]
     refine tkC 1 ?_ (hv:=by intro wS hSw;go_simp;(try with_reducible rfl))
     try simp only [Act.put]
     refine tkC 2 ?_ (hv:=by intro wS hSw;go_simp;(try with_reducible rfl))
     try simp only [Act.put]
     refine tkC 3 ?_ (hv:=by intro wS hSw;have c0:=jad t0 hSw;have c1:=jad t1 hSw;have c2:=jad t2 hSw;go_simp;(try with_reducible rfl))
     try simp only [Act.put]
     have g:w0.grownBy w0.drew none:=hHeld;generalize hv:w0.drew=v at g hHeld ⊢;clear hv hHeld;refine rdA 4 fun K hK=>?_;go_simp;refine (EC.out v (jaa G0.out g)).mono ?_;rintro e w2 ⟨⟨sa,sn,sc⟩,zs,rfl,os,hzl,hzc,hg2⟩;have g1:=g;have g2:=jaa g1 hg2;refine hK.out _ _ g2 (fun hHeld=>?_);clear hK K hHeld
     try simp only
     refine tkC 5 ?_ (hv:=by intro wS hSw;go_simp;(try with_reducible rfl))
     try simp only [Act.put]
     refine tkC 6 ?_ (hv:=by intro wS hSw;go_simp;(try with_reducible rfl))
     try simp only [Act.put]
     refine wpAnyH_done (by kernel_rfl) ?_ _;have hz:=Nat.le_trans G0.out.size g1.size;have OS:=jac (show jaT w2 w.heap.size (Sl.v ⟨sa,sn,sc⟩) zs from ⟨jaL os.1 hz,os.2⟩);have G2:=jac (jaa G0.out g2);have ZL:=jac hzl;have ZC:=jac hzc;clear os hg2 g1 g2 hz hzl hzc;go_simp;go_wp2;go_ret2;exact ⟨G2.out,⟨sa,sn,sc⟩,zs,rfl,OS.out,ZL.out,ZC.out⟩
end Go.Proofs.YtekocmdfaaoggaaGreatDoor
