/- A part. -/
import Derived.Test.YteigfipgmghgmaaGreatDoorMVart
import Derived.Test.YteigfipgmghgmaaGreatDoorVartAO
import Derived.BigQuiet
import Derived.Deep.RegionWith
import Derived.Deep.RegionHeld3
import Derived.Deep.AppendLies
set_option maxHeartbeats 4000000
set_option maxRecDepth 100000
namespace Go.Proofs.YteigfipgmghgmaaGreatDoor
open Go.RowKit
structure ValsIn (w:World) (v:Value) (vs:List (Val×List Int)):Prop where
 vals:jnm w v (vs.map (·.1))
 dims:∀ p∈vs,IsInts w p.1.dv.v p.2
theorem ValsIn.more {w w':World} {v:Value} {vs:List (Val×List Int)} (h:ValsIn w v vs) (hg:w.grownBy w' none):ValsIn w' v vs:=⟨h.vals.more hg,fun p hp=>(h.dims p hp).more hg⟩
def jaO:List Int→R Int
 | []=>.ok 0
 | t::l=>if l.all (fun s=>s==t)=true then .ok t else .error 4
theorem jbt (u:Sl) (vs:List (Val×List Int)) (w:World) (hv:ValsIn w u.v vs) (hp:0<vs.length) (hf:vs.length≤1000000):Calls Tryz.prog 105 #[.slice u.a u.n u.c] w (jaJ w (jaO (vs.map (·.1.ty))) fun t v _=>v=.int .i64 t):=by
 obtain ⟨xa,xc,e1,p1,p2,p3⟩:=hv.vals.form;rw [List.length_map] at e1 p1 p3;obtain ⟨ua,un,uc⟩:=u;simp only [Sl.v,Value.slice.injEq] at e1;obtain ⟨rfl,rfl,rfl⟩:=e1;have HV:=jac hv.vals;have hl:(vs.map (·.1)).length=vs.length:=by simp
 obtain ⟨b,off,rfl⟩:=hv.vals.addr (k:=0) (by rw [hl];exact hp);obtain ⟨z0,z1,z2⟩:=hv.vals.val 0 (by rw [hl];exact hp);rw [Nat.zero_mul,Nat.add_zero,List.getElem_map] at z1;obtain ⟨T,hT⟩ : ∃ T,T=vs[0].1.ty:=⟨_,rfl⟩
 rw [← hT] at z1;have Z1:=jac z1;have HT:=jac hT;clear hv z0 z1 z2 hT;go_enter Tryz.func105,Tryz.ntmps105;go_wp2;go_loopw [7] (fun i wr=>∃ k:Nat,k≤vs.length∧i=.int .i64 k∧(∀ j (hj:j<vs.length),j<k→vs[j].1.ty=T)∧w.grownBy wr none) (fun i _=>vs.length - (intOf i).toNat)
 case atStart=>exact ⟨0,Nat.zero_le _,rfl,fun j hj h=>absurd h (by omega),jad _⟩
 case round =>
  obtain ⟨k,hk,rfl,hall,hg⟩:=hrel;have HA:=jac hall;have HG:=jac hg
  by_cases hkl:k<vs.length
  ·have h2:=HV.out.more hg;obtain ⟨y0,y1,y2⟩:=h2.val k (by rw [hl];exact hkl);rw [List.getElem_map] at y0 y1 y2;have z1:wr.cell? ⟨b,off+1,none⟩=some (.int .i64 T):=jae Z1.out hg;have HK:Hid (vs[k].1.ty=vs[k].1.ty):=rfl;obtain ⟨v,hvv⟩ : ∃ v,v=vs[k].1:=⟨_,rfl⟩
   rw [← hvv] at y0 y1 y2 HK;obtain ⟨vn,vt,⟨da,dn,dc⟩⟩:=v;simp only at y0 y1 y2;have HVV:=jac hvv;obtain ⟨w1,hw1⟩ : ∃ w1,w1=wr.alloc (.cells #[.string vn,.int .i64 vt,.slice da dn dc] 53):=⟨_,rfl⟩
   have g1:Hid (w.grownBy w1 none):=by show w.grownBy w1 none;rw [hw1];exact jaa hg (jab _ _)
   have hb1:=heap_alloc_new wr (.cells #[.string vn,.int .i64 vt,.slice da dn dc] 53);rw [← hw1] at hb1;have q1:w1.cell? ⟨wr.heap.size,1,none⟩=some (.int .i64 vt):=(cell_of_row _ _ 1 _ _ (0,0) hb1).trans rfl;have z1':w1.cell? ⟨b,off+1,none⟩=some (.int .i64 T):=jae Z1.out g1.out;clear hb1 hvv hall hg h2;go_wp2_with fail;rw [← hw1];clear hw1 y0 y1 y2 z1;have hp':(0:Int)<(vs.length:Int):=by omega
   by_cases hd:vt=T
   ·have bd:(vt==T)=true:=by simp [hd]
    go_quiet (first | (go_at_call 71;refine (jaq _).mono ?_;rintro e w' ⟨rfl,rfl⟩;exact ⟨rfl,_,rfl⟩) | fail)
    have HKT:Hid (∀ j (hj:j<vs.length),j<k+1→vs[j].1.ty=T):=fun j hj h=>by
     rcases jaK h with h | rfl
     ·exact HA.out j hj h
     ·rw [← HVV.out];exact hd
    clear hd bd;go_wp2_with fail;go_roundw
    case rel=>exact ⟨k+1,by omega,by go_num,HKT.out,⟨g1.out.os,g1.out.tape,g1.out.output,g1.out.size,g1.out.block⟩⟩
    case measure=>simp [intOf];omega
   ·have bd:(vt==T)=false:=by simpa using hd
    have E:Hid (jaO (vs.map (·.1.ty))=.error 4):=by
     show _=_
     cases vs with
     | nil=>simp at hp
     | cons p l =>
      have hT2:T=p.1.ty:=HT.out;simp only [List.map_cons,jaO];rw [if_neg];intro h;rw [List.all_eq_true] at h
      cases k with
      | zero=>exact hd (by have:=HVV.out;simp at this;rw [hT2,← this])
      | succ k =>
       have h3:k<l.length:=by simpa using hkl
       have:=h (l[k].1.ty) (List.mem_map.2 ⟨l[k],List.getElem_mem h3,rfl⟩);refine hd ?_;have h4:=HVV.out;simp only [List.getElem_cons_succ] at h4;rw [hT2,← beq_iff_eq.1 this,← h4]
    clear hd;refine wp_region_held_drew (S:=(fun w'=>w'.cell? ⟨wr.heap.size,1,none⟩=some (.int .i64 vt)∧w'.cell? ⟨b,off+1,none⟩=some (.int .i64 T))) (by kernel_rfl) (by go_keep) (fun hHeld=>?_);refine tkA 0 ?_
    try simp only [Act.put]
    refine tkA 1 ?_
    try simp only [Act.put]
    refine tkA 2 ?_
    try simp only [Act.put]
    refine tkA 3 ?_
    try simp only [Act.put]
    refine tkA 4 ?_
    try simp only [Act.put]
    refine tkA 5 ?_
    try simp only [Act.put]
    refine tkA 6 ?_
    try simp only [Act.put]
    refine rdA 7 fun K hK=>?_;go_simp;refine (jav _).mono ?_;rintro e wy ⟨rfl,rfl⟩;exact ⟨rfl,jai E.out (jaf g1.out)⟩
  ·have E : Hid (jaO (vs.map (·.1.ty)) = .ok T) := by
     show _=_
     cases vs with
     | nil=>simp at hp
     | cons p l =>
      have hT2:T=p.1.ty:=HT.out;simp only [List.map_cons,jaO];rw [if_pos,hT2];rw [List.all_eq_true];intro s hs;obtain ⟨q,hq,rfl⟩:=List.mem_map.1 hs;obtain ⟨j,hj,rfl⟩:=List.mem_iff_getElem.1 hq;have:=HA.out (j+1) (by simpa using hj) (by simp at hkl ⊢;omega);simp only [List.getElem_cons_succ] at this;simp [this,hT2]
   have z1:wr.cell? ⟨b,off+1,none⟩=some (.int .i64 T):=jae Z1.out hg;have hp':(0:Int)<(vs.length:Int):=by omega
   clear hall hg;go_wp2;go_ret;exact jap E.out HG.out rfl
end Go.Proofs.YteigfipgmghgmaaGreatDoor
namespace Go.Proofs.YteigfipgmghgmaaGreatDoor
open Go.RowKit
theorem jaU {l:List Int} {k:Nat} (hk:k<l.length):l.getD k 0∈l:=by
 rw [List.getD,List.getElem?_eq_getElem hk];exact List.getElem_mem hk
def jqA (X Y T:Int) (along:Nat) (di pa:List Int):R Int:=(jal (decide (0≤X+pa.getD along 0+pa.getD (2+along) 0 - di.getD along 0*(Y - 1) - 1))).bind (fun _=>.ok ((X+pa.getD along 0+pa.getD (2+along) 0 - di.getD along 0*(Y - 1) - 1) / T+1))
theorem jcY (n:Nod) (A:At) (u v:Sl) (x K:List Int) (along:Nat) (w:World) (hn:NodeOk w n A) (hx:IsInts w u.v x) (hK:IsInts w v.v K) (hlx:x.length=4) (hlK:K.length=2) (bx:∀ z∈x,1≤z∧z≤65536) (bK:∀ z∈K,1≤z∧z≤65536) (ha:along<2) :
    Calls Tryz.prog 154 #[jaz n,.slice u.a u.n u.c,.slice v.a v.n v.c,.int .i64 along] w (jaJ w (jaI A x K along) fun z v _=>v=.int .i64 z∧1≤z∧z≤1000000):=by
     obtain ⟨ux,uc,eu,c1,c2,c3⟩:=hx.sl;obtain ⟨ua,un,uu⟩:=u;simp only [Sl.v,Value.slice.injEq] at eu;obtain ⟨rfl,rfl,rfl⟩:=eu;obtain ⟨vx,vc,ev,d1,d2,d3⟩:=hK.sl;obtain ⟨va,vn,vv⟩:=v;simp only [Sl.v,Value.slice.injEq] at ev;obtain ⟨rfl,rfl,rfl⟩:=ev;obtain ⟨xb,xo,rfl,hcx⟩:=hx.get (k:=0) (by omega);obtain ⟨kb,ko,rfl,hck⟩:=hK.get (k:=0) (by omega);have XC:=jac (hcx (2+along) (by omega));have KC:=jac (hck along (by omega));have BX:=bx _ (jaU (l:=x) (k:=2+along) (by omega));have BK:=bK _ (jaU (l:=K) (k:=along) (by omega));rw [hlx,hlK];rw [hlx] at c1;rw [hlK] at d1;have E0:Hid (jaI A x K along=(jaY (A.ints ⟨#[115,116,114,105,100,101,115]⟩ [1,1]) 2 1).bind (fun st=>(jaY (A.ints ⟨#[100,105,108,97,116,105,111,110,115]⟩ [1,1]) 2 1).bind (fun di=>(je1 A).bind (fun pa=>jqA (x.getD (2+along) 0) (K.getD along 0) (st.getD along 0) along di pa)))):=rfl;obtain ⟨X,hX⟩ : ∃ X,X=x.getD (2+along) 0:=⟨_,rfl⟩
     obtain ⟨Y,hY⟩ : ∃ Y,Y=K.getD along 0:=⟨_,rfl⟩
     rw [← hX] at XC E0 BX;rw [← hY] at KC E0 BK;clear hx hK hcx hck bx bK hlx hlK hX hY c3 d3;have NK:=jac hn;obtain ⟨op,nam,⟨ia,il,ic⟩,out,⟨ao,al,cap⟩⟩:=n;unfold jaz;simp only;obtain ⟨w0,hw0⟩ : ∃ w0,w0=w.alloc (.cells #[.string op,.string nam,.slice ia il ic,.string out,.slice ao al cap] 25):=⟨_,rfl⟩
     have g0:Hid (w.grownBy w0 none):=by show w.grownBy w0 none;rw [hw0];exact jab _ _
     have hb0:=heap_alloc_new w (.cells #[.string op,.string nam,.slice ia il ic,.string out,.slice ao al cap] 25);rw [← hw0] at hb0;have BX:Hid (∀ wx,w0.grownBy wx none→wx.heap[w.heap.size]?=some (.cells #[.string op,.string nam,.slice ia il ic,.string out,.slice ao al cap] 25 (0,0))):=fun wx hg=>jag hb0 hg;clear hb0 hn;have ST:=jac (jiL ⟨op,nam,⟨ia,il,ic⟩,out,⟨ao,al,cap⟩⟩ A w0 (NK.out.more g0.out));have DI:=jac (fun (wx:World) (hg:w.grownBy wx none)=>jhF ⟨op,nam,⟨ia,il,ic⟩,out,⟨ao,al,cap⟩⟩ A wx (NK.out.more hg));have PA:=jac (fun (wx:World) (hg:w.grownBy wx none)=>jgQ ⟨op,nam,⟨ia,il,ic⟩,out,⟨ao,al,cap⟩⟩ A wx (NK.out.more hg));unfold jaz at ST DI PA;simp only at ST DI PA;go_enter Tryz.func154,Tryz.ntmps154;go_wp2_with fail;rw [← hw0];clear hw0;refine ST.out.mono ?_;rintro e w1 ⟨s,rfl,hs,hg1⟩;have G1:=jac hg1;have WS:=jac (jdW s _ 2 1 w1 hs (by decide));have HS:=jac hs;clear hs hg1 ST
     cases hk:jaY (A.ints ⟨#[115,116,114,105,100,101,115]⟩ [1,1]) 2 1 with
     | error c =>
      rw [hk] at WS;have E:Hid (jaI A x K along=.error c):=by show _=_;rw [E0.out,hk];rfl
      clear hk;go_wp2_with (first | (go_at_call 155;refine WS.out.mono ?_;rintro e w' ⟨hg,rfl⟩) | fail);exact ⟨rfl,jai E.out (jaa g0.out (jaa G1.out hg))⟩
     | ok st =>
      rw [hk] at WS E0;obtain ⟨e1,stl,stb⟩:=jdV hk;have BST:=jac (stb _ (jaU (l:=st) (k:=along) (by omega)));rw [← e1] at HS
      have SC:Hid (∀ wx,w1.grownBy wx none→∃ b off,s.a=some ⟨b,off,none⟩∧wx.cell? ⟨b,off+along,none⟩=some (.int .i64 (st.getD along 0))):=fun wx hg=>by
       obtain ⟨s1,s2,s3⟩:=s;obtain ⟨b,off,e,hc⟩:=HS.out.get (k:=along) (by omega);exact ⟨b,off,e,jae (hc along (by omega)) hg⟩
      have SL:s.n=2:=by
       obtain ⟨a',c',e,-⟩:=HS.out.sl;have:s.n=st.length:=by simp only [Sl.v,Value.slice.injEq] at e;exact e.2.1
       rw [this,stl]
      obtain ⟨b,off,esa,hsc⟩:=SC.out w1 (jad _);obtain ⟨sa,sn,sc⟩:=s;simp only at esa SL;subst esa SL;simp only [Sl.v] at WS ⊢;have E1:Hid (jaI A x K along=(jaY (A.ints ⟨#[100,105,108,97,116,105,111,110,115]⟩ [1,1]) 2 1).bind (fun di=>(je1 A).bind (fun pa=>jqA X Y (st.getD along 0) along di pa))):=E0.out;obtain ⟨T,hT⟩ : ∃ T,T=st.getD along 0:=⟨_,rfl⟩
      rw [← hT] at hsc E1 BST;have ha2:(along:Int)<2:=by omega
      obtain ⟨n0,n1,n2,n3,n4⟩:=jak (n:=⟨op,nam,⟨ia,il,ic⟩,out,⟨ao,al,cap⟩⟩) (BX.out w1 (G1.out));clear hk e1 stl stb hT SC E0 HS;go_wp2_with (first | (go_at_call 155;refine WS.out.mono ?_;rintro e w' ⟨-,v,rfl,rfl,-,rfl⟩) | fail);clear hsc WS;refine (DI.out w1 (jaa g0.out G1.out)).mono ?_;rintro e w2 ⟨s,rfl,hs,hg2⟩;have G2:=jac (jaa G1.out hg2);have WD:=jac (jdW s _ 2 1 w2 hs (by decide));have HS:=jac hs;clear hs hg2 DI n0 n1 n2 n3 n4
      cases hk:jaY (A.ints ⟨#[100,105,108,97,116,105,111,110,115]⟩ [1,1]) 2 1 with
      | error c =>
       rw [hk] at WD;have E:Hid (jaI A x K along=.error c):=by show _=_;rw [E1.out,hk];rfl
       clear hk;go_wp2_with (first | (go_at_call 155;refine WD.out.mono ?_;rintro e w' ⟨hg,rfl⟩) | fail);exact ⟨rfl,jai E.out (jaa g0.out (jaa G2.out hg))⟩
      | ok di =>
       rw [hk] at WD E1;obtain ⟨e1,dil,dib⟩:=jdV hk;have BDI:=jac (dib _ (jaU (l:=di) (k:=along) (by omega)));rw [← e1] at HS
       have SL:s.n=2:=by
        obtain ⟨a',c',e,-⟩:=HS.out.sl;have:s.n=di.length:=by simp only [Sl.v,Value.slice.injEq] at e;exact e.2.1
        rw [this,dil]
       obtain ⟨sa,sn,sc'⟩:=s;obtain ⟨b2,off2,esa,hc2⟩:=HS.out.get (k:=along) (by omega);simp only at esa SL;subst esa SL;have hsc:=hc2 along (by omega);simp only [Sl.v] at WD ⊢;have E2:Hid (jaI A x K along=(je1 A).bind (fun pa=>jqA X Y T along di pa)):=E1.out;obtain ⟨D,hD⟩ : ∃ D,D=di.getD along 0:=⟨_,rfl⟩
       rw [← hD] at hsc BDI;have HDX:=jac hD;obtain ⟨n0,n1,n2,n3,n4⟩:=jak (n:=⟨op,nam,⟨ia,il,ic⟩,out,⟨ao,al,cap⟩⟩) (BX.out w2 (G2.out));clear hk e1 dil dib hD E1 HS hc2;go_wp2_with (first | (go_at_call 155;refine WD.out.mono ?_;rintro e w' ⟨-,v,rfl,rfl,-,rfl⟩) | fail);clear hsc WD;have P3:=jac (PA.out w2 (jaa g0.out G2.out));clear PA n0 n1 n2 n3 n4
       cases hk:je1 A with
       | error c =>
        rw [hk] at P3;have E:Hid (jaI A x K along=.error c):=by show _=_;rw [E2.out,hk];rfl
        clear hk;refine P3.out.mono ?_;rintro e w' ⟨hg,rfl⟩;exact ⟨rfl,jai E.out (jaa g0.out (jaa G2.out hg))⟩
       | ok pa =>
        rw [hk] at P3 E2;have E3:Hid (jaI A x K along=jqA X Y T along di pa):=E2.out;clear hk E2;refine P3.out.mono ?_;rintro e w3 ⟨hg3,v,rfl,⟨pa1,pn,pc⟩,rfl,hp,hpl,hpb⟩;have G3:=jac (jaa g0.out (jaa G2.out hg3));obtain ⟨pb,po,epa,hpc⟩:=hp.get (k:=0) (by omega)
        have SL:pn=4:=by
         obtain ⟨a',c',e,-⟩:=hp.sl
         cases e
         exact hpl
        subst epa SL;have p1:=hpc along (by omega);have p2:=hpc (2+along) (by omega);have q1:=hpb _ (jaU (l:=pa) (k:=along) (by omega));have q2:=hpb _ (jaU (l:=pa) (k:=2+along) (by omega));have xc:=jae XC.out G3.out;have kc:=jae KC.out G3.out
        have pcb:4≤pc∧pc≤9223372036854775807:=by
         obtain ⟨a',c',e,f1,f2,-⟩:=hp.sl;simp only [Sl.v,Value.slice.injEq] at e;rw [hpl] at f1;rw [e.2.2];exact ⟨f1,f2⟩
        obtain ⟨pc1,pc2⟩:=pcb;have E4:Hid (jaI A x K along=(jal (decide (0≤X+pa.getD along 0+pa.getD (2+along) 0 - D*(Y - 1) - 1))).bind (fun _=>.ok ((X+pa.getD along 0+pa.getD (2+along) 0 - D*(Y - 1) - 1) / T+1))):=by show _=_;rw [E3.out,HDX.out];rfl
        obtain ⟨M,hM⟩ : ∃ M,M=D*(Y - 1):=⟨_,rfl⟩
        have bd:=BDI.out;have bt:=BST.out;have m1:0≤M:=by rw [hM];exact Int.mul_nonneg (by omega) (by omega)
        have m2:M≤100*65536:=by rw [hM];exact Int.mul_le_mul (by omega) (by omega) (by omega) (by omega)
        obtain ⟨U,hU⟩ : ∃ U,U=pa.getD along 0:=⟨_,rfl⟩
        obtain ⟨V,hV⟩ : ∃ V,V=pa.getD (2+along) 0:=⟨_,rfl⟩
        rw [← hM,← hU,← hV] at E4;rw [← hU] at p1 q1;rw [← hV] at p2 q2;have hM':D*(Y - 1)=M:=hM.symm;clear hM hU hV hp hpl hpb hpc E3 P3 HDX hg3;obtain ⟨N,hN0⟩ : ∃ N,N=X+U+V - M - 1:=⟨_,rfl⟩
        rw [← hN0] at E4;have hN1:X+U+V - M - 1=N:=hN0.symm;have bN:N≤200000:=by omega
        clear hN0
        rcases (show along=0∨along=1 by omega) with rfl | rfl
        ·skip
         simp only [Sl.v,Nat.add_zero,Int.natCast_zero] at *
         have hN:0≤N→N / T+1≤1000000∧1≤N / T+1:=fun h=>by
          have h1:N / T≤N:=Int.ediv_le_self _ h;have h2:0≤N / T:=Int.ediv_nonneg h (by omega);omega
         have hdv:0≤N→N.tdiv T=N / T:=fun h=>Int.tdiv_eq_ediv_of_nonneg h;have ht0:¬ T=0:=by omega
         have wz2:IntKind.i64.wrap 2=2:=by decide
         have wz3:IntKind.i64.wrap 3=3:=by decide
         have cN:Hid (0≤N→1≤N / T+1∧N / T+1≤1000000):=fun h=>⟨(hN h).2,(hN h).1⟩
         go_wp2_with fail
         go_quiet (fail)
         clear xc kc p1 p2 wz2 wz3
         by_cases h0:0≤N
         ·have E5:Hid (jaI A x K 0=.ok (N / T+1)):=by show _=_;rw [E4.out];simp [jal,h0];rfl
          have hdv':=hdv h0;have hb:=hN h0;clear hN hdv;go_wp2_with (first | (go_at_call 71;refine (jaq _).mono ?_;rintro e w' ⟨rfl,rfl⟩) | fail);go_ret;exact jap E5.out (ja7 G3.out _) ⟨rfl,cN.out h0⟩
         ·have E5:Hid (jaI A x K 0=.error 4):=by show _=_;rw [E4.out];simp [jal,h0];rfl
          have hd0:decide (0≤N)=false:=by simpa using h0
          clear hN hdv;go_wp2_with (first | (go_at_call 71;refine (jav _).mono ?_;rintro e w' ⟨rfl,rfl⟩) | fail);exact ⟨rfl,jai E5.out (ja7 G3.out _)⟩
        ·skip
         simp only [Sl.v,Nat.reduceAdd,Int.natCast_one] at *
         have hN:0≤N→N / T+1≤1000000∧1≤N / T+1:=fun h=>by
          have h1:N / T≤N:=Int.ediv_le_self _ h;have h2:0≤N / T:=Int.ediv_nonneg h (by omega);omega
         have hdv:0≤N→N.tdiv T=N / T:=fun h=>Int.tdiv_eq_ediv_of_nonneg h;have ht0:¬ T=0:=by omega
         have wz2:IntKind.i64.wrap 2=2:=by decide
         have wz3:IntKind.i64.wrap 3=3:=by decide
         have cN:Hid (0≤N→1≤N / T+1∧N / T+1≤1000000):=fun h=>⟨(hN h).2,(hN h).1⟩
         go_wp2_with fail
         go_quiet (fail)
         clear xc kc p1 p2 wz2 wz3
         by_cases h0:0≤N
         ·have E5:Hid (jaI A x K 1=.ok (N / T+1)):=by show _=_;rw [E4.out];simp [jal,h0];rfl
          have hdv':=hdv h0;have hb:=hN h0;clear hN hdv;go_wp2_with (first | (go_at_call 71;refine (jaq _).mono ?_;rintro e w' ⟨rfl,rfl⟩) | fail);go_ret;exact jap E5.out (ja7 G3.out _) ⟨rfl,cN.out h0⟩
         ·have E5:Hid (jaI A x K 1=.error 4):=by show _=_;rw [E4.out];simp [jal,h0];rfl
          have hd0:decide (0≤N)=false:=by simpa using h0
          clear hN hdv;go_wp2_with (first | (go_at_call 71;refine (jav _).mono ?_;rintro e w' ⟨rfl,rfl⟩) | fail);exact ⟨rfl,jai E5.out (ja7 G3.out _)⟩
end Go.Proofs.YteigfipgmghgmaaGreatDoor
namespace Go.Proofs.YteigfipgmghgmaaGreatDoor
open Go.RowKit
def jl0 (A:At) (x K pa:List Int):R (List Int):=(jal ((List.range 4).all (fun i=>decide (pa.getD i 0<K.getD (i % 2) 0)))).bind (fun _=>(jaI A x K 0).bind (fun a=>(jaI A x K 1).bind (fun b=>.ok [x.getD 0 0,x.getD 1 0,a,b])))
theorem jqB {pa K:List Int} {k:Nat} (hk:k<4) (h:¬ pa.getD k 0<K.getD (k % 2) 0):(List.range 4).all (fun i=>decide (pa.getD i 0<K.getD (i % 2) 0))=false:=by
 rw [List.all_eq_false];exact ⟨k,List.mem_range.2 hk,by simpa using h⟩
theorem jny {pa K:List Int} (h:∀ t,t<4→pa.getD t 0<K.getD (t % 2) 0):(List.range 4).all (fun i=>decide (pa.getD i 0<K.getD (i % 2) 0))=true:=by
 rw [List.all_eq_true];intro t ht;simpa using h t (List.mem_range.1 ht)
theorem jl1 (n:Nod) (A:At) (u:Sl) (x:List Int) (w:World) (hn:NodeOk w n A) (hx:IsInts w u.v x) (hf:Fine x):Calls Tryz.prog 126 #[jaz n,.slice u.a u.n u.c] w (jaJ w (jbI A x) jbd):=by
 obtain ⟨ux,uc,eu,c1,c2,c3⟩:=hx.sl;obtain ⟨ua,un,uu⟩:=u;simp only [Sl.v,Value.slice.injEq] at eu;obtain ⟨rfl,rfl,rfl⟩:=eu;have HX:=jac hx;have PB:Hid (∀ z∈x,1≤z∧z≤65536):=fun z hz=>⟨hf.pos z hz,hf.le_each hz⟩
 have E0:Hid (jbI A x=(jal (decide (x.length=4))).bind (fun _=>(jaY (A.ints ⟨#[107,101,114,110,101,108,95,115,104,97,112,101]⟩ []) 2 1).bind (fun K=>(je1 A).bind (fun pa=>jl0 A x K pa)))):=rfl;clear hx hf;have NK:=jac hn;obtain ⟨op,nam,⟨ia,il,ic⟩,out,⟨ao,al,cap⟩⟩:=n;unfold jaz;simp only;obtain ⟨w0,hw0⟩ : ∃ w0,w0=w.alloc (.cells #[.string op,.string nam,.slice ia il ic,.string out,.slice ao al cap] 25):=⟨_,rfl⟩
 have g0:Hid (w.grownBy w0 none):=by show w.grownBy w0 none;rw [hw0];exact jab _ _
 have hb0:=heap_alloc_new w (.cells #[.string op,.string nam,.slice ia il ic,.string out,.slice ao al cap] 25);rw [← hw0] at hb0;have BX:Hid (∀ wx,w0.grownBy wx none→wx.heap[w.heap.size]?=some (.cells #[.string op,.string nam,.slice ia il ic,.string out,.slice ao al cap] 25 (0,0))):=fun wx hg=>jag hb0 hg;clear hb0 hn;have NI:=jac (jbr ⟨op,nam,⟨ia,il,ic⟩,out,⟨ao,al,cap⟩⟩ A ⟨#[107,101,114,110,101,108,95,115,104,97,112,101]⟩ ⟨none,0,0⟩ [] w0 (NK.out.more g0.out) ⟨none,0,rfl,Nat.le_refl _,by decide,by simp,fun _=>⟨rfl,rfl⟩,fun h=>(by simp at h),fun z hz=>(by simp at hz)⟩);have PA:=jac (fun (wx:World) (hg:w.grownBy wx none)=>jgQ ⟨op,nam,⟨ia,il,ic⟩,out,⟨ao,al,cap⟩⟩ A wx (NK.out.more hg));have PL:=jac (fun (wx:World) (hg:w.grownBy wx none) (v:Sl) (K:List Int) (lng:Nat) (hK:IsInts wx v.v K) (hl:x.length=4) (hlK:K.length=2) (bK:∀ z∈K,1≤z∧z≤65536) (ha:lng<2)=>jcY ⟨op,nam,⟨ia,il,ic⟩,out,⟨ao,al,cap⟩⟩ A ⟨ua,x.length,uu⟩ v x K lng wx (NK.out.more hg) (HX.out.more hg) hK hl hlK PB.out bK ha);unfold jaz at NI PA PL;simp only at NI PA PL
 by_cases hl:x.length=4
 ·have b0:((x.length:Int)==4)=true:=by simp [hl]
  have E1:Hid (jbI A x=(jaY (A.ints ⟨#[107,101,114,110,101,108,95,115,104,97,112,101]⟩ []) 2 1).bind (fun K=>(je1 A).bind (fun pa=>jl0 A x K pa))):=by show _=_;rw [E0.out];simp [jal,hl];rfl
  have HL:=jac hl;clear hl;go_enter Tryz.func126,Tryz.ntmps126;go_wp2_with (first | (go_at_call 71;refine (jaq _).mono ?_;rintro e w' ⟨rfl,rfl⟩) | fail);rw [← hw0];clear hw0 b0;refine NI.out.mono ?_;rintro e w1 ⟨s,rfl,hs,hg1⟩;have G1:=jac hg1;have WD:=jac (jdW s _ 2 1 w1 hs (by decide));have HS:=jac hs;clear hs hg1 NI
  cases hk:jaY (A.ints ⟨#[107,101,114,110,101,108,95,115,104,97,112,101]⟩ []) 2 1 with
  | error c =>
   rw [hk] at WD;have E:Hid (jbI A x=.error c):=by show _=_;rw [E1.out,hk];rfl
   clear hk;go_wp2_with (first | (go_at_call 155;refine WD.out.mono ?_;rintro e w' ⟨hg,rfl⟩) | fail);exact ⟨rfl,jai E.out (jaa g0.out (jaa G1.out hg))⟩
  | ok K =>
   rw [hk] at WD E1;obtain ⟨e1,kl,kbd⟩:=jdV hk;rw [← e1] at HS
   have SL:s.n=2:=by
    obtain ⟨a',c',e,-⟩:=HS.out.sl;have:s.n=K.length:=by simp only [Sl.v,Value.slice.injEq] at e;exact e.2.1
    rw [this,kl]
   obtain ⟨sa,sn,sc⟩:=s;obtain ⟨kb,ko,esa,hck⟩:=HS.out.get (k:=0) (by omega);simp only at esa SL;subst esa SL;simp only [Sl.v] at WD HS ⊢;have E2:Hid (jbI A x=(je1 A).bind (fun pa=>jl0 A x K pa)):=E1.out;have KL:=jac kl;have KB:=jac kbd;have KC:=jac hck;obtain ⟨n0,n1,n2,n3,n4⟩:=jak (n:=⟨op,nam,⟨ia,il,ic⟩,out,⟨ao,al,cap⟩⟩) (BX.out w1 (G1.out));clear hk e1 kl kbd hck E1;go_wp2_with (first | (go_at_call 155;refine WD.out.mono ?_;rintro e w' ⟨-,v,rfl,rfl,-,rfl⟩) | fail);have P3:=jac (PA.out w1 (jaa g0.out G1.out));clear WD PA n0 n1 n2 n3 n4
   cases hk:je1 A with
   | error c =>
    rw [hk] at P3;have E:Hid (jbI A x=.error c):=by show _=_;rw [E2.out,hk];rfl
    clear hk;refine P3.out.mono ?_;rintro e w' ⟨hg,rfl⟩;exact ⟨rfl,jai E.out (jaa g0.out (jaa G1.out hg))⟩
   | ok pa =>
    rw [hk] at P3 E2;have E3:Hid (jbI A x=jl0 A x K pa):=E2.out;clear hk E2;refine P3.out.mono ?_;rintro e w4 ⟨hg3,v,rfl,⟨pa1,pn,pc⟩,rfl,hp,hpl,hpb⟩;obtain ⟨pb',po,epa,hpc⟩:=hp.get (k:=0) (by omega)
    have pcb:4≤pc∧pc≤9223372036854775807:=by
     obtain ⟨a',c',e,f1,f2,-⟩:=hp.sl;simp only [Sl.v,Value.slice.injEq] at e;rw [hpl] at f1;rw [e.2.2];exact ⟨f1,f2⟩
    have SL:pn=4:=by
     obtain ⟨a',c',e,-⟩:=hp.sl;simp only [Sl.v,Value.slice.injEq] at e;rw [← hpl];exact e.2.1
    simp only at epa;subst epa SL;obtain ⟨pc1,pc2⟩:=pcb;have G04:=jac (jaa G1.out hg3);have G4:=jac (jaa g0.out (jaa G1.out hg3));have KC4:Hid (∀ i,i<K.length→w4.cell? ⟨kb,ko+i,none⟩=some (.int .i64 (K.getD i 0))):=fun i hi=>jae (KC.out i hi) hg3;have HPC:=jac hpc;have HPL:=jac hpl;have HK4:=jac (HS.out.more hg3);clear hp hpl hpb hpc hg3 P3 KC HS;simp only [Sl.v];go_wp2;go_loopw [18] (fun i wr=>w4=wr∧∃ k:Nat,k≤4∧i=.int .i64 k∧∀ t,t<k→pa.getD t 0<K.getD (t % 2) 0) (fun i _=>4 - (intOf i).toNat)
    case atStart=>exact ⟨rfl,0,Nat.zero_le _,rfl,fun t h=>absurd h (by omega)⟩
    case round =>
     obtain ⟨hw,k,hk,rfl,hall⟩:=hrel;subst hw;have HA:=jac hall;clear hall
     by_cases hkl:k<4
     ·have p1:=HPC.out k (by have:=HPL.out;omega);obtain ⟨m,hm⟩ : ∃ m:Nat,m=k % 2:=⟨_,rfl⟩
      have q1:=KC4.out m (by have:=KL.out;omega);have hmod:(k:Int).tmod 2=(m:Int):=by rw [hm,Int.tmod_eq_emod_of_nonneg (by omega)];omega
      have hm2:m<2:=by omega
      have i1:(k:Int)<4:=by omega
      have i2:(m:Int)<2:=by omega
      obtain ⟨P,hP⟩ : ∃ P,P=pa.getD k 0:=⟨_,rfl⟩
      obtain ⟨Q,hQ⟩ : ∃ Q,Q=K.getD m 0:=⟨_,rfl⟩
      rw [← hP] at p1;rw [← hQ] at q1;have HPP:=jac hP;have HQQ:Hid (Q=K.getD (k % 2) 0):=by show _=_;rw [hQ,hm]
      clear hP hQ hm
      by_cases hpq:P<Q
      ·go_wp2_with (first | (go_at_call 71;refine (jaq _).mono ?_;rintro e w' ⟨rfl,rfl⟩) | fail);go_roundw
       case rel =>
        refine ⟨by trivial,k+1,by omega,by go_num,fun t ht=>?_⟩
        rcases jaK ht with h | rfl
        ·exact HA.out t h
        ·rw [← HPP.out,← HQQ.out];exact hpq
       case measure=>simp [intOf];omega
      ·have bpq:decide (P<Q)=false:=by simpa using hpq
       have E4:Hid (jbI A x=.error 4):=by show _=_;rw [E3.out];unfold jl0;rw [jqB hkl (by rw [← HPP.out,← HQQ.out];exact hpq)];rfl
       clear hpq;go_wp2_with (first | (go_at_call 71;refine (jav _).mono ?_;rintro e w' ⟨rfl,rfl⟩) | fail);exact ⟨rfl,jai E4.out G4.out⟩
     ·have E4:Hid (jbI A x=(jaI A x K 0).bind (fun a=>(jaI A x K 1).bind (fun b=>.ok [x.getD 0 0,x.getD 1 0,a,b]))):=by show _=_;rw [E3.out];unfold jl0;rw [jny (fun t ht=>HA.out t (by omega))];rfl
      have hl:=HL.out;obtain ⟨xb,xo,rfl,hcx⟩:=HX.out.get (k:=0) (by omega);have X0:=jac (hcx 0 (by omega));have X1:=jac (hcx 1 (by omega));have bx0:=PB.out _ (jaU (l:=x) (k:=0) (by omega));have bx1:=PB.out _ (jaU (l:=x) (k:=1) (by omega));rw [Nat.add_zero] at X0;obtain ⟨x0,hx0⟩ : ∃ z,z=x.getD 0 0:=⟨_,rfl⟩
      obtain ⟨x1,hx1⟩ : ∃ z,z=x.getD 1 0:=⟨_,rfl⟩
      rw [← hx0] at X0 bx0 E4;rw [← hx1] at X1 bx1 E4;have y0:=jae X0.out G4.out;have y1:=jae X1.out G4.out;have L0:=jac (fun (wx:World) (hg:w4.grownBy wx none)=>PL.out wx (jaa G4.out hg) ⟨some ⟨kb,ko,none⟩,2,sc⟩ K 0 (HK4.out.more hg) HL.out KL.out (fun z hz=>by have:=KB.out z hz;omega) (by decide));have L1:=jac (fun (wx:World) (hg:w4.grownBy wx none)=>PL.out wx (jaa G4.out hg) ⟨some ⟨kb,ko,none⟩,2,sc⟩ K 1 (HK4.out.more hg) HL.out KL.out (fun z hz=>by have:=KB.out z hz;omega) (by decide));simp only [Int.natCast_zero,Int.natCast_one] at L0 L1;have l0:(0:Int)<(x.length:Int):=by omega
      have l1:(1:Int)<(x.length:Int):=by omega
      have m0:0<x.length:=by omega
      have m1:1<x.length:=by omega
      obtain ⟨n0,n1,n2,n3,n4⟩:=jak (n:=⟨op,nam,⟨ia,il,ic⟩,out,⟨ao,al,cap⟩⟩) (BX.out w4 (G04.out));clear hcx hx0 hx1 hl PL;go_wp2_with fail
      cases hA0:jaI A x K 0 with
      | error c =>
       rw [hA0] at L0;have E5:Hid (jbI A x=.error c):=by show _=_;rw [E4.out,hA0];rfl
       clear hA0;refine wp_region_held_drew (S:=(fun w'=>w'.cell? ⟨w.heap.size,0,none⟩=some (.string op)∧w'.cell? ⟨w.heap.size,1,none⟩=some (.string nam)∧w'.cell? ⟨w.heap.size,2,none⟩=some (.slice ia il ic)∧w'.cell? ⟨w.heap.size,3,none⟩=some (.string out)∧w'.cell? ⟨w.heap.size,4,none⟩=some (.slice ao al cap)∧w'.cell? ⟨xb,xo,none⟩=some (.int .i64 x0)∧w'.cell? ⟨xb,xo+1,none⟩=some (.int .i64 x1))) (by kernel_rfl) (by go_keep) (fun hHeld=>?_);refine tkA 0 ?_
       try simp only [Act.put]
       refine tkA 1 ?_
       try simp only [Act.put]
       refine tkA 2 ?_
       try simp only [Act.put]
       refine tkA 3 ?_
       try simp only [Act.put]
       refine tkA 4 ?_
       try simp only [Act.put]
       refine tkA 5 ?_
       try simp only [Act.put]
       refine tkA 6 ?_
       try simp only [Act.put]
       refine tkA 7 ?_
       try simp only [Act.put]
       refine tkA 8 ?_
       try simp only [Act.put]
       refine tkA 10 ?_
       try simp only [Act.put]
       refine tkA 11 ?_
       try simp only [Act.put]
       refine tkA 12 ?_
       try simp only [Act.put]
       refine wpAnyH_ready (rs:=[9]) (by kernel_rfl) (by simp) ?_;refine AllReadyH.cons rfl (fun K hK=>?_) ?_
       ·skip
        go_simp;refine (L0.out _ (jaf (jad _))).mono ?_;rintro e wy ⟨hg,rfl⟩;exact ⟨rfl,jai E5.out (jaa (jaf G4.out) hg)⟩
       exact AllReadyH.nil
      | ok pa =>
       rw [hA0] at L0
       cases hA1:jaI A x K 1 with
       | error c =>
        rw [hA1] at L1;have E6:Hid (jbI A x=.error c):=by show _=_;rw [E4.out,hA0,hA1];rfl
        clear hA0 hA1;refine wp_region_held_drew (S:=(fun w'=>w'.cell? ⟨w.heap.size,0,none⟩=some (.string op)∧w'.cell? ⟨w.heap.size,1,none⟩=some (.string nam)∧w'.cell? ⟨w.heap.size,2,none⟩=some (.slice ia il ic)∧w'.cell? ⟨w.heap.size,3,none⟩=some (.string out)∧w'.cell? ⟨w.heap.size,4,none⟩=some (.slice ao al cap)∧w'.cell? ⟨xb,xo,none⟩=some (.int .i64 x0)∧w'.cell? ⟨xb,xo+1,none⟩=some (.int .i64 x1))) (by kernel_rfl) (by go_keep) (fun hHeld=>?_);refine tkA 0 ?_
        try simp only [Act.put]
        refine tkA 1 ?_
        try simp only [Act.put]
        refine tkA 2 ?_
        try simp only [Act.put]
        refine tkA 3 ?_
        try simp only [Act.put]
        refine tkA 4 ?_
        try simp only [Act.put]
        refine tkA 5 ?_
        try simp only [Act.put]
        refine tkA 6 ?_
        try simp only [Act.put]
        refine tkA 7 ?_
        try simp only [Act.put]
        refine tkA 8 ?_
        try simp only [Act.put]
        refine tkA 10 ?_
        try simp only [Act.put]
        refine tkA 11 ?_
        try simp only [Act.put]
        refine tkA 12 ?_
        try simp only [Act.put]
        refine wpAnyH_ready (rs:=[9]) (by kernel_rfl) (by simp) ?_;refine AllReadyH.cons rfl (fun K hK=>?_) ?_
        ·skip
         go_simp;refine (L0.out _ (jaf (jad _))).mono ?_;rintro e w5 ⟨hg5,v,rfl,rfl,hb1,hb2⟩;have g5:=jaa (jaf (jad w4)) hg5;have g5w:=jaa G04.out g5;obtain ⟨n0,n1,n2,n3,n4⟩:=jak (n:=⟨op,nam,⟨ia,il,ic⟩,out,⟨ao,al,cap⟩⟩) (BX.out w5 g5w);have y0:=jae X0.out (jaa g0.out g5w);have y1:=jae X1.out (jaa g0.out g5w)
         try dsimp only
         refine hK.out _ _ (by first | assumption | go_keep) (fun hHeld=>?_);clear hK K
         try simp only [Act.put]
         refine wpAnyH_ready (rs:=[13]) (by kernel_rfl) (by simp) ?_;refine AllReadyH.cons rfl (fun K hK=>?_) ?_
         ·skip
          go_simp;refine (L1.out _ g5).mono ?_;rintro e wy ⟨hg,rfl⟩;exact ⟨rfl,jai E6.out (jaa (jaa G4.out g5) hg)⟩
         exact AllReadyH.nil
        exact AllReadyH.nil
       | ok pb =>
        rw [hA1] at L1;have E7:Hid (jbI A x=.ok [x0,x1,pa,pb]):=by show _=_;rw [E4.out,hA0,hA1];rfl
        clear hA0 hA1;refine wp_region_held_drew (S:=(fun w'=>w'.cell? ⟨w.heap.size,0,none⟩=some (.string op)∧w'.cell? ⟨w.heap.size,1,none⟩=some (.string nam)∧w'.cell? ⟨w.heap.size,2,none⟩=some (.slice ia il ic)∧w'.cell? ⟨w.heap.size,3,none⟩=some (.string out)∧w'.cell? ⟨w.heap.size,4,none⟩=some (.slice ao al cap)∧w'.cell? ⟨xb,xo,none⟩=some (.int .i64 x0)∧w'.cell? ⟨xb,xo+1,none⟩=some (.int .i64 x1))) (by kernel_rfl) (by go_keep) (fun hHeld=>?_);refine tkA 0 ?_
        try simp only [Act.put]
        refine tkA 1 ?_
        try simp only [Act.put]
        refine tkA 2 ?_
        try simp only [Act.put]
        refine tkA 3 ?_
        try simp only [Act.put]
        refine tkA 4 ?_
        try simp only [Act.put]
        refine tkA 5 ?_
        try simp only [Act.put]
        refine tkA 6 ?_
        try simp only [Act.put]
        refine tkA 7 ?_
        try simp only [Act.put]
        refine tkA 8 ?_
        try simp only [Act.put]
        refine tkA 10 ?_
        try simp only [Act.put]
        refine tkA 11 ?_
        try simp only [Act.put]
        refine tkA 12 ?_
        try simp only [Act.put]
        refine wpAnyH_ready (rs:=[9]) (by kernel_rfl) (by simp) ?_;refine AllReadyH.cons rfl (fun K hK=>?_) ?_
        ·skip
         go_simp;refine (L0.out _ (jaf (jad _))).mono ?_;rintro e w5 ⟨hg5,v,rfl,rfl,hb1,hb2⟩;have g5:=jaa (jaf (jad w4)) hg5;have g5w:=jaa G04.out g5;obtain ⟨n0,n1,n2,n3,n4⟩:=jak (n:=⟨op,nam,⟨ia,il,ic⟩,out,⟨ao,al,cap⟩⟩) (BX.out w5 g5w);have y0:=jae X0.out (jaa g0.out g5w);have y1:=jae X1.out (jaa g0.out g5w)
         try dsimp only
         refine hK.out _ _ (by first | assumption | go_keep) (fun hHeld=>?_);clear hK K
         try simp only [Act.put]
         refine wpAnyH_ready (rs:=[13]) (by kernel_rfl) (by simp) ?_;refine AllReadyH.cons rfl (fun K hK=>?_) ?_
         ·skip
          go_simp;refine (L1.out _ g5).mono ?_;rintro e w6 ⟨hg6,v,rfl,rfl,hc1,hc2⟩;have g6:=jaa g5 hg6;have g6w:=jaa G04.out g6;obtain ⟨n0,n1,n2,n3,n4⟩:=jak (n:=⟨op,nam,⟨ia,il,ic⟩,out,⟨ao,al,cap⟩⟩) (BX.out w6 g6w);have y0:=jae X0.out (jaa g0.out g6w);have y1:=jae X1.out (jaa g0.out g6w)
          try dsimp only
          refine hK.out _ _ (by first | assumption | go_keep) (fun hHeld=>?_);clear hK K
          try simp only [Act.put]
          refine wpAnyH_ready (rs:=[14]) (by kernel_rfl) (by simp) ?_;refine AllReadyH.cons rfl (fun K hK=>?_) ?_
          ·skip
           go_simp;have y0:=jae y0 (jab w6 (.cells #[.int .i64 x0,.int .i64 x1,.int .i64 pa,.int .i64 pb] 3));have y1:=jae y1 (jab w6 (.cells #[.int .i64 x0,.int .i64 x1,.int .i64 pa,.int .i64 pb] 3));obtain ⟨n0,n1,n2,n3,n4⟩:=jak (n:=⟨op,nam,⟨ia,il,ic⟩,out,⟨ao,al,cap⟩⟩) (BX.out _ (jaa g6w (jab w6 (.cells #[.int .i64 x0,.int .i64 x1,.int .i64 pa,.int .i64 pb] 3))));refine hK.out _ _ (by first | assumption | go_keep) (fun hHeld=>?_);clear hK K
           try simp only [Act.put]
           refine tkA 15 ?_
           try simp only [Act.put]
           refine wpAnyH_done (by kernel_rfl) ?_ _
           try go_simp
           go_wp2;go_ret;exact jap E7.out (jaa (jaa G4.out g6) (jab _ _)) ⟨⟨some ⟨w6.heap.size,0,none⟩,4,4⟩,rfl,jbu w6 [x0,x1,pa,pb] 3 (by simp) (fun y hy=>by simp at hy;omega)⟩
          exact AllReadyH.nil
         exact AllReadyH.nil
        exact AllReadyH.nil
 ·have b0:((x.length:Int)==4)=false:=by simpa using (fun h=>hl (by omega):¬ (x.length:Int)=4)
  have E1:Hid (jbI A x=.error 4):=by show _=_;rw [E0.out];simp [jal,hl];rfl
  clear hl;go_enter Tryz.func126,Tryz.ntmps126;go_wp2_with (first | (go_at_call 71;refine (jav _).mono ?_;rintro e w' ⟨rfl,rfl⟩) | fail);rw [← hw0];exact ⟨rfl,jai E1.out g0.out⟩
end Go.Proofs.YteigfipgmghgmaaGreatDoor
namespace Go.Proofs.YteigfipgmghgmaaGreatDoor
open Go.RowKit
theorem jgS (u:Sl) (x:List Int) (t:Int) (w:World) (hx:IsInts w u.v x):Calls Tryz.prog 153 #[.slice u.a u.n u.c,.int .i64 t] w (jaJ w (jbz x t) jbd):=by
 obtain ⟨ux,uc,eu,c1,c2,c3⟩:=hx.sl;obtain ⟨ua,un,uu⟩:=u;simp only [Sl.v,Value.slice.injEq] at eu;obtain ⟨rfl,rfl,rfl⟩:=eu;have HX:=jac hx;have ON:=jac (jk8 t w);simp only
 by_cases hl:x.length=2
 ·have b0:((x.length:Int)==2)=true:=by simp [hl]
  have E0:Hid (jbz x t=(jgx t).bind (fun on=>.ok (if on=true then [x.getD 1 0,x.getD 0 0] else x))):=by show _=_;unfold jbz;simp [jal,hl];rfl
  obtain ⟨b,off,rfl,hc⟩:=hx.get (k:=0) (by omega);have q0:=hc 0 (by omega);have q1:=hc 1 (by omega);rw [Nat.add_zero] at q0;have w0:=hx.wf (x.getD 0 0) (by rw [List.getD,List.getElem?_eq_getElem (by omega)];exact List.getElem_mem _);have w1:=hx.wf (x.getD 1 0) (by rw [List.getD,List.getElem?_eq_getElem (by omega)];exact List.getElem_mem _);obtain ⟨p,hp⟩ : ∃ p,p=x.getD 0 0:=⟨_,rfl⟩
  obtain ⟨q,hq⟩ : ∃ q,q=x.getD 1 0:=⟨_,rfl⟩
  rw [← hp] at q0 w0 E0;rw [← hq] at q1 w1 E0;have l1:(1:Int)<(x.length:Int):=by omega
  have l0:(0:Int)<(x.length:Int):=by omega
  have m0:0<x.length:=by omega
  have m1:1<x.length:=by omega
  clear hp hq hc hl hx
  cases hk:jgx t with
  | error c =>
   rw [hk] at ON;have E:Hid (jbz x t=.error c):=by show _=_;rw [E0.out,hk];rfl
   clear hk;go_enter Tryz.func153,Tryz.ntmps153;go_wp2_with (first | (go_at_call 71;refine (jaq _).mono ?_;rintro e w' ⟨rfl,rfl⟩) | (go_at_call 146;refine ON.out.mono ?_;rintro e w' ⟨hg,rfl⟩) | fail);exact ⟨rfl,jai E.out hg⟩
  | ok on =>
   rw [hk] at ON
   cases on with
   | true =>
    have E:Hid (jbz x t=.ok [q,p]):=by show _=_;rw [E0.out,hk];rfl
    clear hk;go_enter Tryz.func153,Tryz.ntmps153;go_wp2_with (first | (go_at_call 71;refine (jaq _).mono ?_;rintro e w' ⟨rfl,rfl⟩) | (go_at_call 146;refine ON.out.mono ?_;rintro e w' ⟨-,v,rfl,rfl,rfl⟩) | fail);go_region_held3 (fun w'=>w'.cell? ⟨b,off,none⟩=some (.int .i64 p)∧w'.cell? ⟨b,off+1,none⟩=some (.int .i64 q)) (go_keep) (fail);go_wp2;go_ret;exact jap E.out (jaa (jaf (jad _)) (jab _ _)) ⟨⟨_,2,2⟩,rfl,jbu _ [q,p] 3 (by simp) (fun y hy=>by simp at hy;rcases hy with rfl | rfl <;> assumption)⟩
   | false =>
    have E:Hid (jbz x t=.ok x):=by show _=_;rw [E0.out,hk];rfl
    clear hk;go_enter Tryz.func153,Tryz.ntmps153;go_wp2_with (first | (go_at_call 71;refine (jaq _).mono ?_;rintro e w' ⟨rfl,rfl⟩) | (go_at_call 146;refine ON.out.mono ?_;rintro e w' ⟨-,v,rfl,rfl,rfl⟩) | fail);go_ret;exact jap E.out (jad _) ⟨⟨_,_,_⟩,rfl,HX.out⟩
 ·have b0:((x.length:Int)==2)=false:=by simpa using (fun h=>hl (by omega):¬ (x.length:Int)=2)
  have E:Hid (jbz x t=.error 4):=by show _=_;unfold jbz;simp [jal,hl];rfl
  clear hl;go_enter Tryz.func153,Tryz.ntmps153;go_wp2_with (first | (go_at_call 71;refine (jav _).mono ?_;rintro e w' ⟨rfl,rfl⟩) | fail);exact ⟨rfl,jai E.out (jad _)⟩
theorem jjZ {a b zs:List Int} (h:jaE a b=.ok zs) (ha:a.length≤6) (hb:b.length≤6):zs.length≤6:=by
 unfold jaE at h
 split at h
 ·rename_i h0
  cases h
  unfold bcR;rw [if_pos h0,jcB];unfold jaL;omega
 ·cases h
theorem jfN (u v:Sl) (x y:List Int) (w:World) (hx:IsInts w u.v x) (hy:IsInts w v.v y) (hlx:x.length≤6) (hly:y.length≤6):Calls Tryz.prog 123 #[.slice u.a u.n u.c,.slice v.a v.n v.c] w (jaJ w (ja6 x y) jbd):=by
 obtain ⟨ux,uc,eu,c1,c2,c3⟩:=hx.sl;obtain ⟨ua,un,uu⟩:=u;simp only [Sl.v,Value.slice.injEq] at eu;obtain ⟨rfl,rfl,rfl⟩:=eu;obtain ⟨vx,vc,ev,d1,d2,d3⟩:=hy.sl;obtain ⟨va,vn,vv⟩:=v;simp only [Sl.v,Value.slice.injEq] at ev;obtain ⟨rfl,rfl,rfl⟩:=ev;simp only;obtain ⟨i0,hi,hz0,hz1,hz2⟩:=info_parts jdx
 by_cases h2:2≤x.length
 ·by_cases h3:2≤y.length
  ·obtain ⟨a,ha⟩ : ∃ a,x.length=a+2:=⟨x.length - 2,by omega⟩
   obtain ⟨b,hb⟩ : ∃ b,y.length=b+2:=⟨y.length - 2,by omega⟩
   have E0:Hid (ja6 x y=(jal (x.getD (a+1) 0==y.getD b 0)).bind (fun _=>(jaE (x.take a) (y.take b)).bind (fun s=>.ok (s++[x.getD a 0,y.getD (b+1) 0])))):=by
    show _=_;unfold ja6;rw [ha,hb];simp [jal]
    rfl
   obtain ⟨xb,xo,rfl,hcx⟩:=hx.get (k:=0) (by omega);obtain ⟨yb,yo,rfl,hcy⟩:=hy.get (k:=0) (by omega);have x1:=hcx (a+1) (by omega);have x0:=hcx a (by omega);have y0:=hcy b (by omega);have y1:=hcy (b+1) (by omega);have wx0:=hx.wf (x.getD a 0) (by rw [List.getD,List.getElem?_eq_getElem (by omega)];exact List.getElem_mem _);have wy1:=hy.wf (y.getD (b+1) 0) (by rw [List.getD,List.getElem?_eq_getElem (by omega)];exact List.getElem_mem _);have SP:=jac (fun (wx:World) (hg:w.grownBy wx none)=>spread_any ⟨some ⟨xb,xo,none⟩,a,uu⟩ ⟨some ⟨yb,yo,none⟩,b,vv⟩ (x.take a) (y.take b) wx ((hx.front (by show a≤x.length;omega)).more hg) ((hy.front (by show b≤y.length;omega)).more hg));simp only at SP;obtain ⟨p,hp⟩ : ∃ p,p=x.getD a 0:=⟨_,rfl⟩
   obtain ⟨q,hq⟩ : ∃ q,q=y.getD (b+1) 0:=⟨_,rfl⟩
   obtain ⟨r,hr⟩ : ∃ r,r=x.getD (a+1) 0:=⟨_,rfl⟩
   obtain ⟨s,hs⟩ : ∃ s,s=y.getD b 0:=⟨_,rfl⟩
   rw [← hp] at x0 wx0 E0;rw [← hq] at y1 wy1 E0;rw [← hr] at x1 E0;rw [← hs] at y0 E0;rw [ha] at c1 ⊢;rw [hb] at d1 ⊢;have i7:decide ((2:Int)≤(b:Int)+2)=true:=by simp;omega
   have i8:decide ((2:Int)≤(a:Int)+2)=true:=by simp;omega
   have i9:(a:Int)+2 - 2=(a:Int):=by omega
   have i10:(b:Int)+2 - 2=(b:Int):=by omega
   have kw:IntKind.i64.wrap ((a:Int)+1)=(a:Int)+1:=by rw [jbS];unfold wrap64;omega
   have ka:(a:Int)<(a:Int)+2:=by omega
   have kb:(b:Int)<(b:Int)+2:=by omega
   have k1:(a:Int)+1<(a:Int)+2:=by omega
   have k2:(0:Int)≤(a:Int)+1:=by omega
   have k3:((a:Int)+1).toNat=a+1:=by omega
   have j1:a+1<a+2:=by omega
   have j2:b<b+2:=by omega
   have j3:a<a+2:=by omega
   have j4:b+1<b+2:=by omega
   clear hp hq hr hs hcx hcy hx hy ha hb h2 h3 c3 d3;go_enter Tryz.func123,Tryz.ntmps123;go_wp2_with (first | (go_at_call 71;refine (jaq _).mono ?_;rintro e w' ⟨rfl,rfl⟩) | fail)
   by_cases hrs:r=s
   ·have brs:(r==s)=true:=by simp [hrs]
    have E1:Hid (ja6 x y=(jaE (x.take a) (y.take b)).bind (fun t=>.ok (t++[p,q]))):=by show _=_;rw [E0.out,brs];rfl
    clear hrs
    go_quiet (first | (go_at_call 71;refine (jaq _).mono ?_;rintro e w' ⟨rfl,rfl⟩;exact ⟨rfl,_,rfl⟩) | fail)
    go_wp2_with fail;have gq:w.grownBy (w.drewN nq) none:=⟨rfl,rfl,rfl,Nat.le_refl _,fun k hk hn=>rfl⟩
    obtain ⟨wq,hwq⟩ : ∃ wq,wq=w.drewN nq:=⟨_,rfl⟩
    rw [← hwq] at gq ⊢;have x0':=jae x0 gq;have y1':=jae y1 gq;have kw2:IntKind.i64.wrap ((b:Int)+1)=(b:Int)+1:=by rw [jbS];unfold wrap64;omega
    have k4:(b:Int)+1<(b:Int)+2:=by omega
    have k5:(0:Int)≤(b:Int)+1:=by omega
    have k6:((b:Int)+1).toNat=b+1:=by omega
    have z1:a≤uu:=by omega
    have z2:b≤vv:=by omega
    clear hwq x1 y0
    cases hk:jaE (x.take a) (y.take b) with
    | error c =>
     have E2:Hid (ja6 x y=.error c):=by show _=_;rw [E1.out,hk];rfl
     rw [hk] at SP;clear hk;refine wp_region_held_drew (S:=(fun w'=>w'.cell? ⟨xb,xo+a,none⟩=some (.int .i64 p)∧w'.cell? ⟨yb,yo+(b+1),none⟩=some (.int .i64 q))) (by kernel_rfl) (by go_keep) (fun hHeld=>?_);refine tkA 0 ?_
     try simp only [Act.put]
     refine tkA 1 ?_
     try simp only [Act.put]
     refine tkA 2 ?_
     try simp only [Act.put]
     refine tkA 3 ?_
     try simp only [Act.put]
     refine tkA 4 ?_
     try simp only [Act.put]
     refine tkA 5 ?_
     try simp only [Act.put]
     refine tkA 7 ?_
     try simp only [Act.put]
     refine tkA 8 ?_
     try simp only [Act.put]
     refine tkA 9 ?_
     try simp only [Act.put]
     refine tkA 10 ?_
     try simp only [Act.put]
     refine tkA 11 ?_
     try simp only [Act.put]
     refine tkA 12 ?_
     try simp only [Act.put]
     refine tkA 13 ?_
     try simp only [Act.put]
     refine tkA 14 ?_
     try simp only [Act.put]
     refine tkA 15 ?_
     try simp only [Act.put]
     refine wpAnyH_ready (rs:=[6,16]) (by kernel_rfl) (by simp) ?_;refine AllReadyH.cons rfl (fun K hK=>?_) ?_
     ·skip
      go_simp;refine (SP.out _ (by first | exact jaf gq | exact jaa (jaf gq) (jab _ _))).mono ?_;rintro e wy ⟨hg,rfl⟩;exact ⟨rfl,jai E2.out (jaa (by first | exact jaf gq | exact jaa (jaf gq) (jab _ _)) hg)⟩
     refine AllReadyH.cons rfl (fun K hK=>?_) ?_
     ·skip
      go_simp;refine hK.out _ _ (by first | assumption | go_keep) (fun hHeld=>?_);clear hK K
      try simp only [Act.put]
      refine wpAnyH_ready (rs:=[6]) (by kernel_rfl) (by simp) ?_;refine AllReadyH.cons rfl (fun K hK=>?_) ?_
      ·skip
       go_simp;refine (SP.out _ (by first | exact jaf gq | exact jaa (jaf gq) (jab _ _))).mono ?_;rintro e wy ⟨hg,rfl⟩;exact ⟨rfl,jai E2.out (jaa (by first | exact jaf gq | exact jaa (jaf gq) (jab _ _)) hg)⟩
      exact AllReadyH.nil
     exact AllReadyH.nil
    | ok zs =>
     have E2:Hid (ja6 x y=.ok (zs++[p,q])):=by show _=_;rw [E1.out,hk];rfl
     have hzl:zs.length≤6:=jjZ hk (by simp;omega) (by simp;omega);rw [hk] at SP;clear hk;refine wp_region_held_drew (S:=(fun w'=>w'.cell? ⟨xb,xo+a,none⟩=some (.int .i64 p)∧w'.cell? ⟨yb,yo+(b+1),none⟩=some (.int .i64 q))) (by kernel_rfl) (by go_keep) (fun hHeld=>?_);refine tkA 0 ?_
     try simp only [Act.put]
     refine tkA 1 ?_
     try simp only [Act.put]
     refine tkA 2 ?_
     try simp only [Act.put]
     refine tkA 3 ?_
     try simp only [Act.put]
     refine tkA 4 ?_
     try simp only [Act.put]
     refine tkA 5 ?_
     try simp only [Act.put]
     refine tkA 7 ?_
     try simp only [Act.put]
     refine tkA 8 ?_
     try simp only [Act.put]
     refine tkA 9 ?_
     try simp only [Act.put]
     refine tkA 10 ?_
     try simp only [Act.put]
     refine tkA 11 ?_
     try simp only [Act.put]
     refine tkA 12 ?_
     try simp only [Act.put]
     refine tkA 13 ?_
     try simp only [Act.put]
     refine tkA 14 ?_
     try simp only [Act.put]
     refine tkA 15 ?_
     try simp only [Act.put]
     refine wpAnyH_ready (rs:=[6,16]) (by kernel_rfl) (by simp) ?_;refine AllReadyH.cons rfl (fun K hK=>?_) ?_
     ·skip
      go_simp;refine (SP.out _ (by first | exact jaf gq | exact jaa (jaf gq) (jab _ _))).mono ?_;rintro e w2 ⟨hg2,v,rfl,⟨sa,sn,sc⟩,rfl,ho⟩;have gw:=jaa (by first | exact jaf gq | exact jaa (jaf gq) (jab _ _)) hg2;have xk:=jae x0 gw;have yk:=jae y1 gw
      try dsimp only
      refine hK.out _ _ (by first | assumption | go_keep) (fun hHeld=>?_);clear hK K
      try simp only [Act.put]
      refine wpAnyH_ready (rs:=[16]) (by kernel_rfl) (by simp) ?_;refine AllReadyH.cons rfl (fun K hK=>?_) ?_
      ·skip
       go_simp;refine hK.out _ _ (by first | assumption | go_keep) (fun hHeld=>?_);clear hK K
       try simp only [Act.put]
       refine wpAnyH_ready (rs:=[17]) (by kernel_rfl) (by simp) ?_;refine AllReadyH.cons rfl (fun K hK=>?_) ?_
       ·skip
        have OW2:=ho.base_le (show w.heap.size≤_ by have:=(jaf gq).size;simp at this ⊢;omega);have hsn:sn=zs.length:=by obtain ⟨a1,c4,e,-⟩:=ho.ints.sl;simp only [Sl.v,Value.slice.injEq] at e;exact e.2.1
        subst hsn;refine step_append_lies (w2.alloc (.cells #[.int .i64 p,.int .i64 q] 3)) (by rfl) (.tmp 39) (.tmp 49) 29 (by rfl) w.heap.size 3 i0 (.int .i64 0) 1 8 Tryz.underlying29 hi hz0 hz1 hz2 (by rfl) (by decide) (.slice sa zs.length sc) zs.length (zs.map (Value.int .i64)) (by rfl) ((OW2.new (jab _ _)).1) ⟨w2.heap.size,0,none⟩ 2 2 [.int .i64 p,.int .i64 q] (by rfl) (by rfl) ?_ (by simp [Value.oneCell']) (by decide) (by simp only [maxLen];omega) (by omega) (by have:=gw.size;simp;omega) _ rfl ?_
        ·intro j u hu;rw [Addr.add_lit,Nat.zero_add]
         match j,hu with
         | 0,hu=>rw [cell_of_row _ _ 0 _ _ (0,0) (heap_alloc_new w2 _)];exact hu
         | 1,hu=>rw [cell_of_row _ _ 1 _ _ (0,0) (heap_alloc_new w2 _)];exact hu
         | j+2,hu=>simp at hu
        intro g gcap w4 hown hgrow _ _;have gw4:w.grownBy w4 none:=jan (jaa gw (jab _ _)) hgrow (fun r e=>(OW2.lt r e).1);have xk4:=jae x0 gw4;have yk4:=jae y1 gw4;have OW4:Owns w4 w.heap.size (.slice (some ⟨g,0,none⟩) (zs.length+2) gcap) (zs++[p,q]):=⟨by rw [List.length_append,List.map_append];exact hown,by rw [List.length_append];simp only [List.length_cons,List.length_nil];omega,fun z hz=>by rcases List.mem_append.1 hz with h | h;exact ho.2.2 z h;simp at h;rcases h with rfl | rfl <;> assumption⟩
        refine hK.out _ _ (by first | assumption | go_keep) (fun hHeld=>?_);clear hK K
        try simp only [Act.put]
        refine tkA 18 ?_
        try simp only [Act.put]
        refine wpAnyH_done (by kernel_rfl) ?_ _
        try go_simp
        go_wp2;go_ret;exact jap E2.out gw4 ⟨⟨some ⟨g,0,none⟩,zs.length+2,gcap⟩,rfl,OW4.ints⟩
       exact AllReadyH.nil
      exact AllReadyH.nil
     refine AllReadyH.cons rfl (fun K hK=>?_) ?_
     ·skip
      go_simp;refine hK.out _ _ (by first | assumption | go_keep) (fun hHeld=>?_);clear hK K
      try simp only [Act.put]
      refine wpAnyH_ready (rs:=[6]) (by kernel_rfl) (by simp) ?_;refine AllReadyH.cons rfl (fun K hK=>?_) ?_
      ·skip
       go_simp;refine (SP.out _ (by first | exact jaf gq | exact jaa (jaf gq) (jab _ _))).mono ?_;rintro e w2 ⟨hg2,v,rfl,⟨sa,sn,sc⟩,rfl,ho⟩;have gw:=jaa (by first | exact jaf gq | exact jaa (jaf gq) (jab _ _)) hg2;have xk:=jae x0 gw;have yk:=jae y1 gw;have hn0:=jae (cell_of_row _ _ 0 _ _ (0,0) (heap_alloc_new wq.drew (.cells #[.int .i64 p,.int .i64 q] 3))) hg2;have hn1:=jae (cell_of_row _ _ 1 _ _ (0,0) (heap_alloc_new wq.drew (.cells #[.int .i64 p,.int .i64 q] 3))) hg2
       try dsimp only
       refine hK.out _ _ (by first | assumption | go_keep) (fun hHeld=>?_);clear hK K
       try simp only [Act.put]
       refine wpAnyH_ready (rs:=[17]) (by kernel_rfl) (by simp) ?_;refine AllReadyH.cons rfl (fun K hK=>?_) ?_
       ·skip
        have OW2:=ho.base_le (show w.heap.size≤_ by have:=(jaf gq).size;simp at this ⊢;omega);have hsn:sn=zs.length:=by obtain ⟨a1,c4,e,-⟩:=ho.ints.sl;simp only [Sl.v,Value.slice.injEq] at e;exact e.2.1
        subst hsn;refine step_append_lies w2 (by rfl) (.tmp 39) (.tmp 49) 29 (by rfl) w.heap.size 3 i0 (.int .i64 0) 1 8 Tryz.underlying29 hi hz0 hz1 hz2 (by rfl) (by decide) (.slice sa zs.length sc) zs.length (zs.map (Value.int .i64)) (by rfl) (OW2.1) ⟨wq.drew.heap.size,0,none⟩ 2 2 [.int .i64 p,.int .i64 q] (by rfl) (by rfl) ?_ (by simp [Value.oneCell']) (by decide) (by simp only [maxLen];omega) (by omega) (by have:=gw.size;simp;omega) _ rfl ?_
        ·intro j u hu;rw [Addr.add_lit,Nat.zero_add]
         match j,hu with
         | 0,hu=>rw [hn0];exact hu
         | 1,hu=>rw [hn1];exact hu
         | j+2,hu=>simp at hu
        intro g gcap w4 hown hgrow _ _;have gw4:w.grownBy w4 none:=jan gw hgrow (fun r e=>(OW2.lt r e).1);have xk4:=jae x0 gw4;have yk4:=jae y1 gw4;have OW4:Owns w4 w.heap.size (.slice (some ⟨g,0,none⟩) (zs.length+2) gcap) (zs++[p,q]):=⟨by rw [List.length_append,List.map_append];exact hown,by rw [List.length_append];simp only [List.length_cons,List.length_nil];omega,fun z hz=>by rcases List.mem_append.1 hz with h | h;exact ho.2.2 z h;simp at h;rcases h with rfl | rfl <;> assumption⟩
        refine hK.out _ _ (by first | assumption | go_keep) (fun hHeld=>?_);clear hK K
        try simp only [Act.put]
        refine tkA 18 ?_
        try simp only [Act.put]
        refine wpAnyH_done (by kernel_rfl) ?_ _
        try go_simp
        go_wp2;go_ret;exact jap E2.out gw4 ⟨⟨some ⟨g,0,none⟩,zs.length+2,gcap⟩,rfl,OW4.ints⟩
       exact AllReadyH.nil
      exact AllReadyH.nil
     exact AllReadyH.nil
   ·have brs:(r==s)=false:=by simpa using hrs
    have E1:Hid (ja6 x y=.error 4):=by show _=_;rw [E0.out,brs];rfl
    clear hrs;refine wp_region_held_drew (S:=(fun w'=>w'.cell? ⟨xb,xo+(a+1),none⟩=some (.int .i64 r)∧w'.cell? ⟨yb,yo+b,none⟩=some (.int .i64 s))) (by kernel_rfl) (by go_keep) (fun hHeld=>?_);refine tkA 0 ?_
    try simp only [Act.put]
    refine tkA 1 ?_
    try simp only [Act.put]
    refine tkA 2 ?_
    try simp only [Act.put]
    refine tkA 3 ?_
    try simp only [Act.put]
    refine tkA 4 ?_
    try simp only [Act.put]
    refine tkA 5 ?_
    try simp only [Act.put]
    refine tkA 6 ?_
    try simp only [Act.put]
    refine tkA 7 ?_
    try simp only [Act.put]
    refine tkA 8 ?_
    try simp only [Act.put]
    refine tkA 9 ?_
    try simp only [Act.put]
    refine rdA 10 fun K hK=>?_;go_simp;refine (jav _).mono ?_;rintro e wy ⟨rfl,rfl⟩;exact ⟨rfl,jai E1.out (jaf (jad _))⟩
  ·have b3:decide ((2:Int)≤(y.length:Int))=false:=by simp;omega
   have h2':(2:Int)≤(x.length:Int):=by omega
   have E1:Hid (ja6 x y=.error 4):=by show _=_;unfold ja6;simp [jal,h3];rfl
   clear h2 h3;go_enter Tryz.func123,Tryz.ntmps123;go_wp2_with (first | (go_at_call 71;refine (jav _).mono ?_;rintro e w' ⟨rfl,rfl⟩) | fail);exact ⟨rfl,jai E1.out (jad _)⟩
 ·have b2:decide ((2:Int)≤(x.length:Int))=false:=by simp;omega
  have E1:Hid (ja6 x y=.error 4):=by show _=_;unfold ja6;simp [jal,h2];rfl
  clear h2;go_enter Tryz.func123,Tryz.ntmps123;go_wp2_with (first | (go_at_call 71;refine (jav _).mono ?_;rintro e w' ⟨rfl,rfl⟩) | fail);exact ⟨rfl,jai E1.out (jad _)⟩
end Go.Proofs.YteigfipgmghgmaaGreatDoor
namespace Go.Proofs.YteigfipgmghgmaaGreatDoor
open Go.RowKit
theorem jsP {a b:List Int} {k:Nat} (_hk:k<a.length) (_hl:a.length=b.length) (h:a.getD k 0≠b.getD k 0):a≠b:=by
 rintro rfl;exact h rfl
theorem jsQ {a b:List Int} (hl:a.length=b.length) (h:∀ t,t<a.length→a.getD t 0=b.getD t 0):a=b:=by
 refine List.ext_getElem hl fun i h1 h2=>?_;have:=h i h1;simpa [List.getD,h1,h2] using this
theorem jeA (u v:Sl) (a b:List Int) (w:World) (ha:IsInts w u.v a) (hb:IsInts w v.v b):Calls Tryz.prog 41 #[.slice u.a u.n u.c,.slice v.a v.n v.c] w fun e w'=>e=.returned (.bool (decide (a=b)))∧∃ n,w'=w.drewN n:=by
 obtain ⟨ux,uc,eu,c1,c2,c3⟩:=ha.sl;obtain ⟨ua,un,uu⟩:=u;simp only [Sl.v,Value.slice.injEq] at eu;obtain ⟨rfl,rfl,rfl⟩:=eu;obtain ⟨vx,vc,ev,d1,d2,d3⟩:=hb.sl;obtain ⟨va,vn,vv⟩:=v;simp only [Sl.v,Value.slice.injEq] at ev;obtain ⟨rfl,rfl,rfl⟩:=ev;simp only;have HA:=jac ha;have HB:=jac hb;clear ha hb
 by_cases hl:a.length=b.length
 ·have b0:((a.length:Int) != (b.length:Int))=false:=by simp [hl]
  have HL:=jac hl;clear hl;go_enter Tryz.func41,Tryz.ntmps41;go_wp2;go_loopw [13] (fun i wr=>∃ k n:Nat,k≤a.length∧i=.int .i64 k∧(∀ t,t<k→a.getD t 0=b.getD t 0)∧wr=w.drewN n) (fun i _=>a.length - (intOf i).toNat)
  case atStart=>exact ⟨0,0,Nat.zero_le _,rfl,fun t h=>absurd h (by omega),rfl⟩
  case round =>
   obtain ⟨k,n,hk,rfl,hp,rfl⟩:=hrel;have HP:=jac hp;clear hp
   by_cases hkl:k<a.length
   ·have hkb:k<b.length:=by have:=HL.out;omega
    obtain ⟨ab,ao,rfl,hca⟩:=HA.out.get hkl;obtain ⟨bb,bo,rfl,hcb⟩:=HB.out.get hkb;have gq:w.grownBy (w.drewN n) none:=⟨rfl,rfl,rfl,Nat.le_refl _,fun k hk hn=>rfl⟩
    have h1:=jae (hca k hkl) gq;have h2:=jae (hcb k hkb) gq;have i1:(k:Int)<(a.length:Int):=by omega
    have i2:(k:Int)<(b.length:Int):=by omega
    obtain ⟨p,hp⟩ : ∃ p,p=a.getD k 0:=⟨_,rfl⟩
    obtain ⟨q,hq⟩ : ∃ q,q=b.getD k 0:=⟨_,rfl⟩
    rw [← hp] at h1;rw [← hq] at h2;have HPP:=jac hp;have HQQ:=jac hq;obtain ⟨wq,hwq⟩ : ∃ wq,wq=w.drewN n:=⟨_,rfl⟩
    rw [← hwq] at h1 h2 ⊢;have HW:=jac hwq;clear hp hq hca hcb gq hwq
    by_cases hd:p=q
    ·have bd:(p != q)=false:=by simp [hd]
     have HD:=jac hd;clear hd;go_wp2_with fail
     go_quiet (fail)
     go_wp2_with fail;go_roundw
     case rel =>
      refine ⟨k+1,n+nq,by omega,by go_num,fun t ht=>?_,by rw [HW.out];simp [World.drewN,Nat.add_assoc]⟩
      rcases jaK ht with h | rfl
      ·exact HP.out t h
      ·rw [← HPP.out,← HQQ.out];exact HD.out
     case measure=>simp [intOf];omega
    ·have bd:(p != q)=true:=by simpa using hd
     have E:Hid (decide (a=b)=false):=by show _=_;exact decide_eq_false (jsP hkl HL.out (by rw [← HPP.out,← HQQ.out];exact hd))
     clear hd;go_wp2_with fail
     go_quiet (fail)
     go_wp2;go_ret;exact ⟨by rw [E.out];rfl,n+nq,by rw [HW.out];simp [World.drewN,Nat.add_assoc]⟩
   ·have E:Hid (decide (a=b)=true):=by show _=_;exact decide_eq_true (jsQ HL.out (fun t ht=>HP.out t (by omega)))
    go_wp2;go_ret;exact ⟨by rw [E.out];rfl,n,rfl⟩
 ·have b0:((a.length:Int) != (b.length:Int))=true:=by simpa using (fun h=>hl (by omega):¬ (a.length:Int)=b.length)
  have E:Hid (decide (a=b)=false):=by show _=_;exact decide_eq_false (fun h=>hl (by rw [h]))
  clear hl;go_enter Tryz.func41,Tryz.ntmps41;go_wp2;go_ret;exact ⟨by rw [E.out];rfl,0,rfl⟩
end Go.Proofs.YteigfipgmghgmaaGreatDoor
