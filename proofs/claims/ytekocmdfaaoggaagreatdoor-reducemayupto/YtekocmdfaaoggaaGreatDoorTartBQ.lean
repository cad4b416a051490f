/- A part. -/
import Derived.Test.YtekocmdfaaoggaaGreatDoorTartBJ
import Derived.Test.YtekocmdfaaoggaaGreatDoorTartBK
import Derived.Test.YtekocmdfaaoggaaGreatDoorTartBP
import Derived.Test.YtekocmdfaaoggaaGreatDoorTartBH
import Derived.Test.YtekocmdfaaoggaaGreatDoorTartBF
set_option maxHeartbeats 8000000
set_option maxRecDepth 100000
namespace Go.Proofs.YtekocmdfaaoggaaGreatDoor
open Go.RowKit
def jq9 (ty:Int) (l:List Int) (r:R (List Int)):Prop:=match r with
 | .ok zs=>pbE ty l zs=0
 | .error c=>c≠0
theorem jnn {ty:Int} {l zs:List Int} (hc:jbt l=0) (hl:(zs.length:Int)=jbe l) (hz:∀ z∈zs,Nu.chk ty z=true):pbE ty l zs=0:=by
 have hp:1≤jbe l:=prod_pos l (jbl hc).pos;have h0:=Nu.chk_types ty _ (hz (zs[0]'(by omega)) (List.getElem_mem _));have h1:chk ty 0=true:=by rcases h0 with rfl | rfl | rfl | rfl <;> decide
 unfold pbE;rw [if_neg (by simp [h1]),if_neg (by simp [hc]),if_neg (by unfold cnt;rw [if_pos hc];omega),if_pos];rw [List.all_eq_true];exact hz
theorem jb1 {p:Ten×Tq} (h:okT p=true):jbt p.2.1=0∧(p.2.2.length:Int)=jbe p.2.1∧∀ z∈p.2.2,Nu.chk p.1.ty z=true:=by
 have h0:pbE p.1.ty p.2.1 p.2.2=0:=by simpa [okT] using h
 unfold pbE at h0
 split at h0
 ·omega
 ·split at h0
  ·rename_i h2;exact absurd h0 h2
  ·rename_i h2
   split at h0
   ·omega
   ·rename_i h3
    split at h0
    ·rename_i h4;have hc:jbt p.2.1=0:=by omega
     refine ⟨hc,?_,List.all_eq_true.1 h4⟩;have:cnt p.2.1=jbe p.2.1:=by unfold cnt;rw [if_pos hc]
     omega
    ·omega
theorem jno {ps:List (Ten×Tq)} {r:R (Int×List Int)} {a:Int×List Int} (h:jcQ ps r=.ok a):ps.all okT=true∧r=.ok a:=by
 unfold jcQ at h
 split at h
 ·rename_i h1;exact ⟨h1,h⟩
 ·cases h
theorem jpi {ps:List (Ten×Tq)} {r:R (Int×List Int)} (h:∀ c,r=.error c→c≠0):∀ c,jcQ ps r=.error c→c≠0:=by
 intro c hc;unfold jcQ at hc
 split at hc
 ·exact h c hc
 ·cases hc;decide
theorem jnp (f:List Int→Int) (xs pl:List Int) (k:Nat):(jaZ f xs pl k).length=k:=by simp [jaZ]
theorem jnq {f:List Int→Int} {xs pl:List Int} {k:Nat} : ∀ z∈jaZ f xs pl k,∃ p,p<k∧z=f (jbc xs (jb6 pl pl.length p)):=by
 intro z hz;unfold jaZ at hz;simp only [List.mem_map,List.mem_range] at hz;obtain ⟨p,hp,rfl⟩:=hz;exact ⟨p,hp,rfl⟩
theorem jgn (keep:Bool):∀ (x:List Int) (g:List Bool),g.length=x.length→(∀ z∈x,1≤z)→jbe (jcp keep x g)=(jbA x g:Int)
 | [],[],_,_=>by cases keep <;> rfl
 | [],g::gs,h,_=>by simp at h
 | d::x,[],h,_=>by simp at h
 | d::x,g::gs,h,hz=>by
  have ih:=jgn keep x gs (by simpa using h) (fun z hm=>hz z (List.mem_cons_of_mem _ hm));have hd:=hz d (List.mem_cons_self ..)
  cases g <;> cases keep <;> simp [jcp,jbA,jbe,ih,Int.toNat_of_nonneg (show 0≤d by omega)]
theorem jd4 {t:Int} (h:t=1∨t=6∨t=7):Nu.chk t 0=true:=by rcases h with rfl | rfl | rfl <;> decide
theorem jh1 (k:Nat) (t x y:Int) (hk:k=0∨k=4) (ht:t=1∨t=6∨t=7):Nu.chk t (Nu.bin k t x y).1=true:=by
 by_cases h1:t=1
 ·subst h1;exact jdl k x y (by omega)
 ·unfold Nu.bin
  split
  ·rw [if_neg (show ¬ t=9 by omega)]
   rcases hk with rfl | rfl
   ·exact Nu.wrapT_stays t _ (by omega)
   ·exact Nu.wrapT_stays t _ (by omega)
  ·exact jd4 ht
theorem jfw {t:Int} {g:Int→Int→Int} (hg:∀ x y,Nu.chk t (g x y)=true):∀ (ys:List Int) (z:Int),Nu.chk t z=true→Nu.chk t (ys.foldl g z)=true
 | [],_,h=>h
 | y::ys,z,_=>jfw hg ys (g z y) (hg z y)
theorem jnr {t:Int} (ht:t=1∨t=6∨t=7) (ys:List Int):Nu.chk t (jpN t ys)=true:=jfw (fun x y=>jh1 0 t x y (.inl rfl) ht) ys 0 (jd4 ht)
theorem jkS {t:Int} (ht:t=1∨t=6∨t=7) (ys:List Int) (h:∀ y∈ys,Nu.chk t y=true):Nu.chk t (ji5 t ys)=true:=by
 refine jfw (fun x y=>jh1 4 t x y (.inr rfl) ht) ys.tail _ ?_
 cases ys with
 | nil=>exact jd4 ht
 | cons y l=>exact h y (List.mem_cons_self ..)
theorem jns {t:Int} (ht:t=1∨t=6∨t=7) {xs ns:List Int} (h:∀ y∈xs,Nu.chk t y=true):∀ y∈jbc xs ns,Nu.chk t y=true:=by
 intro y hy;unfold jbc at hy;obtain ⟨z,-,rfl⟩:=List.mem_map.1 hy
 by_cases hz:z.toNat<xs.length
 ·rw [List.getD,List.getElem?_eq_getElem hz];exact h _ (List.getElem_mem _)
 ·rw [List.getD,List.getElem?_eq_none (by omega)];exact jd4 ht
theorem jq3:∀ r∈jdM,(r.1∈([[82,101,100,117,99,101,83,117,109],[82,101,100,117,99,101,77,101,97,110],[82,101,100,117,99,101,77,97,120],[65,114,103,77,97,120],[83,111,102,116,109,97,120]]:List (List UInt8))→r.2.1=1∧r.2.2.1=1)∧(r.1=[66,97,116,99,104,78,111,114,109,97,108,105,122,97,116,105,111,110]→r.2.1=5∧r.2.2.1=5):=by decide +kernel
def tvY (p:Ten×Tq):Val×List Int:=(jdu p,p.2.1)
theorem jjG {m:Nat} {l:List Int} {w w':World} {e:Ending} (hc:jbt l=0) (hm:(m:Int)=jbe l) (h:FltQ m w e w'):∃ r,jq9 1 l r∧EvQ w r e w':=by
 obtain ⟨hg,s,zs,rfl,ho,hl,hz⟩:=h;exact ⟨.ok zs,jnn hc (by omega) hz,hg,s,rfl,ho⟩
theorem jd5 {ty:Int} {f:List Int→Int} {x xs l:List Int} {keep:Bool} {g:List Bool} {w w':World} {e:Ending} (hc:jbt l=0) (hx:∀ z∈x,1≤z) (hg:g.length=x.length) (hl:l=jcp keep x g) (hf:∀ ns,Nu.chk ty (f (jbc xs ns))=true) (h:EvQ w (.ok (jaZ f xs (plF x g [0]) (jbA x g))) e w'):∃ r,jq9 ty l r∧EvQ w r e w':=by
 refine ⟨_,?_,h⟩;refine jnn hc ?_ ?_
 ·rw [jnp,hl,jgn keep x g hg hx]
 ·intro z hz;obtain ⟨p,-,rfl⟩:=jnq z hz;exact hf _
theorem jq4 {A:At} {ts:List Int} {t:Int} (h:jdE A ts 7=.ok t):t=1:=by
 obtain ⟨a,q1,q2⟩:=jaK h;obtain ⟨b,q3,q4⟩:=jaK q2
 cases q4
 rfl
theorem jpj (n:Nod) (hop:n.op.toList∉([[82,101,100,117,99,101,83,117,109],[82,101,100,117,99,101,77,101,97,110],[82,101,100,117,99,101,77,97,120],[65,114,103,77,97,120],[83,111,102,116,109,97,120],[66,97,116,99,104,78,111,114,109,97,108,105,122,97,116,105,111,110]]:List (List UInt8))) (u:Sl) (nam0:ByteArray) (ty:Int) (dv:Sl) (w:World) :
    Calls Tryz.prog 10 #[jax n,.slice u.a u.n u.c,.agg #[.string nam0,.int .i64 ty,.slice dv.a dv.n dv.c]] w (EvQ w (.error 5)):=by
     obtain ⟨op,nam,⟨ia,il,ic⟩,out,⟨ao,al,cap⟩⟩:=n;obtain ⟨ua,un,uc⟩:=u;obtain ⟨da,dn,dc⟩:=dv;unfold jax;simp only [List.mem_cons,List.not_mem_nil,or_false,not_or] at hop;obtain ⟨m0,m1,m2,m3,m4,m5⟩:=hop;have d0:(op.toList==[82,101,100,117,99,101,83,117,109])=false:=by simpa using m0
     have d1:(op.toList==[82,101,100,117,99,101,77,101,97,110])=false:=by simpa using m1
     have d2:(op.toList==[82,101,100,117,99,101,77,97,120])=false:=by simpa using m2
     have d3:(op.toList==[65,114,103,77,97,120])=false:=by simpa using m3
     have d4:(op.toList==[83,111,102,116,109,97,120])=false:=by simpa using m4
     have d5:(op.toList==[66,97,116,99,104,78,111,114,109,97,108,105,122,97,116,105,111,110])=false:=by simpa using m5
     clear m0 m1 m2 m3 m4 m5;go_enter Tryz.func10,Tryz.ntmps10;go_wp2;go_ret2;exact ⟨jaa (jab _ _) (jab _ _),rfl⟩
theorem jh2:∀ {vs us:List (Val×List Int)},vs.map (·.1.ty)=us.map (·.1.ty)→vs.map (·.2)=us.map (·.2)→jei vs=jei us
 | [],[],_,_=>rfl
 | p::l,q::m,h1,h2=>by
  simp only [List.map_cons,List.cons.injEq] at h1 h2;simp only [jei];rw [h1.1,h2.1,jh2 h1.2 h2.2]
 | [],q::m,h1,_=>by simp at h1
 | p::l,[],h1,_=>by simp at h1
theorem jnt {n:Nod} {ins:List ByteArray} {A:At} {vs us:List (Val×List Int)} (h1:vs.map (·.1.ty)=us.map (·.1.ty)) (h2:vs.map (·.2)=us.map (·.2)):jkX n ins A vs=jkX n ins A us:=by
 have hl:vs.length=us.length:=by simpa using congrArg List.length h1
 have ht:jaE vs=jaE us:=h1;have hd:jdV vs=jdV us:=h2;unfold jkX jby;rw [hl,ht,hd,jh2 h1 h2]
theorem jnu (n:Nod) (ins:List ByteArray) (A:At) (u:Sl) (ps:List (Ten×Tq)) (nam0:ByteArray) (ty:Int) (dv:Sl) (l:List Int) (w:World) (hn:NodeAll w n ins A) (hv:TensIn w u.v ps) (hok:ps.all okT=true) (ok:OutOk n ins A (ps.map tvY) (ty,l)) :
    Calls Tryz.prog 10 #[jax n,.slice u.a u.n u.c,.agg #[.string nam0,.int .i64 ty,.slice dv.a dv.n dv.c]] w fun e w'=>∃ r,jq9 ty l r∧EvQ w r e w':=by
     rw [List.all_eq_true] at hok;obtain ⟨R0,hR,e1,e2,e3⟩:=jfs ok.chk;have e4:=ok.len;rw [List.length_map] at e4;obtain ⟨a1,a2⟩:=jq3 R0 hR;rw [e1] at a1 a2;have ht:=ok.typ;have hd:=ok.dim;have hc:=ok.cnt;simp only at ht hd hc
     have one:n.op.toList∈([[82,101,100,117,99,101,83,117,109],[82,101,100,117,99,101,77,101,97,110],[82,101,100,117,99,101,77,97,120],[65,114,103,77,97,120],[83,111,102,116,109,97,120]]:List (List UInt8))→∃ T0 x xs,ps=[(T0,(x,xs))]:=fun hm=>by
      obtain ⟨q1,q2⟩:=a1 hm
      match ps,(show ps.length=1 by omega) with
      | [(T0,(x,xs))],_=>exact ⟨T0,x,xs,rfl⟩
     by_cases h1:n.op=⟨#[82,101,100,117,99,101,83,117,109]⟩
     ·have hm:n.op.toList=[82,101,100,117,99,101,83,117,109]:=by rw [h1,jaj]
      obtain ⟨T0,x,xs,rfl⟩:=one (by rw [hm];simp);obtain ⟨f1,f2,f3⟩:=jb1 (hok (T0,(x,xs)) (by simp));simp only at f1 f2 f3;rw [show (grp n.op).1=5 from by rw [h1];kernel_rfl] at ht;rw [show (grp n.op).2=5 from by rw [h1];kernel_rfl] at hd;obtain ⟨keep,-,el,hax,hgl⟩:=jb7 (show ja7 A x=.ok l from hd);obtain ⟨b0,q3,q4⟩:=jaK ht
      have q5:T0.ty≠9:=by
       have h:(T0.ty != 9)=true:=jem q3;simpa using h
      have q6:ty=T0.ty:=by cases q4;rfl
      subst q6;have hxp:=f3 (xs[0]'(by have:=prod_pos x (jbl f1).pos;omega)) (List.getElem_mem _)
      have t3:T0.ty=1∨T0.ty=6∨T0.ty=7:=by
       rcases Nu.chk_types _ _ hxp with h | h | h | h
       ·exact .inl h
       ·exact .inr (.inl h)
       ·exact .inr (.inr h)
       ·exact absurd h q5
      exact (jjD n A h1 u T0 x xs (jeq A x) nam0 _ dv w hn.ok hv (jbl f1) f2 hax hgl).mono fun e w' h=>jd5 hc (jbl f1).pos hgl el (fun ns=>jnr t3 _) h
     by_cases h2:n.op=⟨#[82,101,100,117,99,101,77,101,97,110]⟩
     ·have hm:n.op.toList=[82,101,100,117,99,101,77,101,97,110]:=by rw [h2,jaj]
      obtain ⟨T0,x,xs,rfl⟩:=one (by rw [hm];simp);obtain ⟨f1,f2,f3⟩:=jb1 (hok (T0,(x,xs)) (by simp));simp only at f1 f2 f3;rw [show (grp n.op).1=7 from by rw [h2];kernel_rfl] at ht;rw [show (grp n.op).2=5 from by rw [h2];kernel_rfl] at hd;obtain ⟨keep,-,el,hax,hgl⟩:=jb7 (show ja7 A x=.ok l from hd);obtain rfl:=jq4 ht;exact (jnj n A h2 u T0 x xs (jeq A x) nam0 _ dv w hn.ok hv (jbl f1) f2 hax hgl).mono fun e w' h=>jd5 hc (jbl f1).pos hgl el (fun ns=>jdl 3 _ _ (by decide)) h
     by_cases h3:n.op=⟨#[82,101,100,117,99,101,77,97,120]⟩
     ·have hm:n.op.toList=[82,101,100,117,99,101,77,97,120]:=by rw [h3,jaj]
      obtain ⟨T0,x,xs,rfl⟩:=one (by rw [hm];simp);obtain ⟨f1,f2,f3⟩:=jb1 (hok (T0,(x,xs)) (by simp));simp only at f1 f2 f3;rw [show (grp n.op).1=5 from by rw [h3];kernel_rfl] at ht;rw [show (grp n.op).2=5 from by rw [h3];kernel_rfl] at hd;obtain ⟨keep,-,el,hax,hgl⟩:=jb7 (show ja7 A x=.ok l from hd);obtain ⟨b0,q3,q4⟩:=jaK ht
      have q5:T0.ty≠9:=by
       have h:(T0.ty != 9)=true:=jem q3;simpa using h
      have q6:ty=T0.ty:=by cases q4;rfl
      subst q6;have hxp:=f3 (xs[0]'(by have:=prod_pos x (jbl f1).pos;omega)) (List.getElem_mem _)
      have t3:T0.ty=1∨T0.ty=6∨T0.ty=7:=by
       rcases Nu.chk_types _ _ hxp with h | h | h | h
       ·exact .inl h
       ·exact .inr (.inl h)
       ·exact .inr (.inr h)
       ·exact absurd h q5
      exact (jpc n A h3 u T0 x xs (jeq A x) nam0 _ dv w hn.ok hv (jbl f1) f2 hax hgl).mono fun e w' h=>jd5 hc (jbl f1).pos hgl el (fun ns=>jkS t3 _ (jns t3 f3)) h
     by_cases h4:n.op=⟨#[65,114,103,77,97,120]⟩
     ·have hm:n.op.toList=[65,114,103,77,97,120]:=by rw [h4,jaj]
      obtain ⟨T0,x,xs,rfl⟩:=one (by rw [hm];simp);obtain ⟨f1,f2,f3⟩:=jb1 (hok (T0,(x,xs)) (by simp));simp only at f1 f2 f3;rw [show (grp n.op).1=6 from by rw [h4];kernel_rfl] at ht;rw [show (grp n.op).2=5 from by rw [h4];kernel_rfl] at hd;obtain ⟨keep,-,el,hax,hgl⟩:=jb7 (show ja7 A x=.ok l from hd);obtain ⟨b0,q3,q4⟩:=jaK ht;obtain rfl:ty=7:=by cases q4;rfl
      exact (jpd n A h4 u T0 x xs (jeq A x) nam0 _ dv w hn.ok hv (jbl f1) f2 hax hgl).mono fun e w' h=>jd5 hc (jbl f1).pos hgl el (fun ns=>by simp [Nu.chk]) h
     by_cases h5:n.op=⟨#[83,111,102,116,109,97,120]⟩
     ·have hm:n.op.toList=[83,111,102,116,109,97,120]:=by rw [h5,jaj]
      obtain ⟨T0,x,xs,rfl⟩:=one (by rw [hm];simp);obtain ⟨f1,f2,f3⟩:=jb1 (hok (T0,(x,xs)) (by simp));simp only at f1 f2 f3;rw [show (grp n.op).1=7 from by rw [h5];kernel_rfl] at ht;rw [show (grp n.op).2=4 from by rw [h5];kernel_rfl] at hd;obtain rfl:=jq4 ht;obtain ⟨gg,q1,q2⟩:=jaK (show (jbv (jaQ A x.length) x.length).bind (fun _=>.ok x)=.ok l from hd);have qx:x=l:=by cases q2;rfl
      subst qx;obtain ⟨rfl,hax,hgl⟩:=jh0 q1;exact (jkN n A h5 u T0 x xs _ nam0 1 dv w hn.ok hv (jbl f1) f2 hax hgl).mono fun e w' h=>jjG hc f2 h
     by_cases h6:n.op=⟨#[66,97,116,99,104,78,111,114,109,97,108,105,122,97,116,105,111,110]⟩
     ·have hm:n.op.toList=[66,97,116,99,104,78,111,114,109,97,108,105,122,97,116,105,111,110]:=by rw [h6,jaj]
      obtain ⟨q1,q2⟩:=a2 hm;rw [show (grp n.op).1=7 from by rw [h6];kernel_rfl] at ht;rw [show (grp n.op).2=21 from by rw [h6];kernel_rfl] at hd;obtain rfl:=jq4 ht
      match ps,(show ps.length=5 by omega) with
      | [(T0,(x,xs)),(T1,(d1,y1)),(T2,(d2,y2)),(T3,(d3,y3)),(T4,(d4,y4))],_ =>
       obtain ⟨f1,f2,-⟩:=jb1 (hok (T0,(x,xs)) (by simp));have f3:=(jb1 (hok (T1,(d1,y1)) (by simp))).2.1;have f4:=(jb1 (hok (T2,(d2,y2)) (by simp))).2.1;have f5:=(jb1 (hok (T3,(d3,y3)) (by simp))).2.1;have f6:=(jb1 (hok (T4,(d4,y4)) (by simp))).2.1;simp only at f1 f2 f3 f4 f5 f6;have hd':ja9 x [d1,d2,d3,d4]=.ok l:=hd;unfold ja9 at hd';obtain ⟨b1,g1,g2⟩:=jaK hd';obtain ⟨b2,g3,g4⟩:=jaK g2;have g5:=jem g1;have g6:=jem g3;have gx:x=l:=by cases g4;rfl
       subst gx;have h2:2≤x.length:=by simpa using g5
       simp only [List.all_cons,List.all_nil,Bool.and_true,Bool.and_eq_true,beq_iff_eq] at g6;obtain ⟨k1,k2,k3,k4⟩:=g6;have hp:=(jbl f1).pos (x.getD 1 0) (by simp [show 1<x.length by omega]);obtain ⟨C,hC⟩:=Int.eq_ofNat_of_zero_le (show 0≤x.getD 1 0 by omega)
       have pc:jbe ((x.drop 1).take 1)=(C:Int):=by
        rw [List.drop_eq_getElem_cons (by omega)];rw [List.getD,List.getElem?_eq_getElem (by omega)] at hC;simp only [List.take_succ_cons,List.take_zero,jbe,Int.mul_one];exact hC
       rw [k1,pc] at f3;rw [k2,pc] at f4;rw [k3,pc] at f5;rw [k4,pc] at f6;exact (jkO n A.xs A.cs h6 u T0 T1 T2 T3 T4 x xs d1 y1 d2 y2 d3 y3 d4 y4 C nam0 1 dv w hn.node.av hn.node.has hv (jbl f1) h2 f2 hC (by omega) (by omega) (by omega) (by omega)).mono fun e w' h=>jjG hc f2 h
     refine (jpj n ?_ u nam0 ty dv w).mono fun e w' h=>⟨.error 5,(by decide:(5:Int)≠0),h⟩
     intro hm;have nb:∀ z:ByteArray,n.op≠z→n.op.toList≠z.data.toList:=fun z hz e=>hz (ByteArray.ext (Array.ext' (by rw [← e,jaj])));simp only [List.mem_cons,List.not_mem_nil,or_false] at hm
     rcases hm with e | e | e | e | e | e
     ·exact nb _ h1 e
     ·exact nb _ h2 e
     ·exact nb _ h3 e
     ·exact nb _ h4 e
     ·exact nb _ h5 e
     ·exact nb _ h6 e
theorem jpk (n:Nod) (ins:List ByteArray) (A:At) (u:Sl) (ps:List (Ten×Tq)) (w:World) (hl:Laid w) (hn:NodeAll w n ins A) (hv:TensIn w u.v ps) (hp1:ps.length≤1000) :
    Calls Tryz.prog 6 #[jax n,.slice u.a u.n u.c] w (DoY w (jcQ ps (jkX n ins A (ps.map tvY))) jq9):=by
     refine jqN n u _ jq9 w fun wx hx=>joT n u _ jq9 wx (jpi fun c h=>joP h) (fun ty l c h=>h) (fun wy hy=>?_) (fun wy ty dv l hy hr hd=>?_)
     ·refine jfg n u ps _ wy (hv.more (jaa hx hy)) (by omega) fun wz s vs hz hvs h1 h2=>?_;have key:=jrz n ins A s vs wz (hl.more (jaa (jaa hx hy) hz)) (hn.more (jaa (jaa hx hy) hz)) hvs;rw [jnt (us:=ps.map tvY) (by rw [h1,List.map_map];rfl) (by rw [h2,List.map_map];rfl)] at key;exact key
     ·obtain ⟨hok,hr⟩:=jno hr;exact jnu n ins A u ps n.out ty dv l wy (hn.more (jaa hx hy)) (hv.more (jaa hx hy)) hok (jqL hr)
end Go.Proofs.YtekocmdfaaoggaaGreatDoor
