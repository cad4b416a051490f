/- A part. -/
import Derived.Test.YtekocmdfaaoggaaGreatDoorMTart
import Derived.Test.YtekocmdfaaoggaaGreatDoorTartBK
import Derived.Test.YtekocmdfaaoggaaGreatDoorTartBO
import Derived.Test.YtekocmdfaaoggaaGreatDoorTartBN
import Derived.Test.YtekocmdfaaoggaaGreatDoorTartBL
import Derived.Test.YtekocmdfaaoggaaGreatDoorTartAB
import Derived.Test.YtekocmdfaaoggaaGreatDoorTartAN
import Derived.Test.YtekocmdfaaoggaaGreatDoorTartBA
import Derived.Test.YtekocmdfaaoggaaGreatDoorTartBB
import Derived.Test.YtekocmdfaaoggaaGreatDoorTartAY
import Derived.Deep.RegionHeld3
set_option maxHeartbeats 8000000
set_option maxRecDepth 100000
namespace Go.Proofs.YtekocmdfaaoggaaGreatDoor
open Go.RowKit
theorem jjz (n : Nod) (u : Sl) (R0 : R (Int × List Int)) (M : List Int → R (List Int)) (w : World) (h1 : ∀ c, R0 = .error c → c ≠ 0) (h2 : ∀ l c, M l = .error c → c ≠ 0)
    (NC:∀ wx,w.grownBy wx none→Calls Tryz.prog 15 #[jax n,.slice u.a u.n u.c] wx (jnB n.out wx R0))
    (MC:∀ (wx:World) (ty:Int) (dv:Sl) (l:List Int),w.grownBy wx none→R0=.ok (ty,l)→jak wx dv.v l→Calls Tryz.prog 10 #[jax n,.slice u.a u.n u.c,.agg #[.string n.out,.int .i64 ty,.slice dv.a dv.n dv.c]] wx (EvQ wx (M l))) :
    Calls Tryz.prog 9 #[jax n,.slice u.a u.n u.c,.func (.func 10) #[] #[]] w (DoQ w (doR R0 M)):=by
     have H1:=jac h1;have H2:=jac h2;have HMC:=jac MC;clear h1 h2 MC;obtain ⟨w0,hw0⟩ : ∃ w0,w0=(w.alloc (.cells #[.string n.op,.string n.name,.slice n.iv.a n.iv.n n.iv.c,.string n.out,.slice n.av.a n.av.n n.av.c] 25)).alloc (.cells #[.int .i64 0,.slice none 0 0,.slice none 0 0] 32):=⟨_,rfl⟩
     have g0:Hid (w.grownBy w0 none):=by show w.grownBy w0 none;rw [hw0];exact jaa (jab _ _) (jab _ _)
     have hbx:=jaJ w (.cells #[.string n.op,.string n.name,.slice n.iv.a n.iv.n n.iv.c,.string n.out,.slice n.av.a n.av.n n.av.c] 25) (.cells #[.int .i64 0,.slice none 0 0,.slice none 0 0] 32);rw [← hw0] at hbx;have BN:Hid (∀ wx,w0.grownBy wx none→wx.heap[w.heap.size]?=some (.cells #[.string n.op,.string n.name,.slice n.iv.a n.iv.n n.iv.c,.string n.out,.slice n.av.a n.av.n n.av.c] 25 (0,0))):=fun wx hg=>jaf hbx.1 hg;have BX:Hid (∀ wx,w0.grownBy wx none→wx.heap[w.heap.size+1]?=some (.cells #[.int .i64 0,.slice none 0 0,.slice none 0 0] 32 (0,0))):=fun wx hg=>jaf hbx.2 hg;have Z0:Hid (w.heap.size+1<w0.heap.size):=(Array.getElem?_eq_some_iff.1 hbx.2).1;have N1:=jac (NC w0 g0.out);clear hbx NC;obtain ⟨op,nam,⟨ia,il,ic⟩,out,⟨ao,al,cap⟩⟩:=n;obtain ⟨ua,un,uc⟩:=u;unfold jax at HMC N1 ⊢;simp only at HMC N1 BN hw0 ⊢;go_enter Tryz.func9,Tryz.ntmps9;go_wp2_with fail;rw [← hw0];clear hw0;refine N1.out.mono ?_;rintro e w1 ⟨hg1,hq⟩;have G1:=jac hg1
     cases R0 with
     | error c =>
      obtain rfl:=hq;have hc:=H1.out c rfl;have bc:(c != 0)=true:=by simpa using hc
      obtain ⟨w2,hw2⟩ : ∃ w2,w2=w1.alloc (.cells #[.string ⟨#[]⟩,.int .i64 0,.slice none 0 0] 50):=⟨_,rfl⟩
      have g2:w1.grownBy w2 none:=by rw [hw2];exact jab _ _
      have B1:=BX.out w2 (jaa hg1 g2);obtain ⟨f0,f1,f2⟩:=ja3 B1;have c0:w2.cell? ⟨w.heap.size+1,0,none⟩=some (.int .i64 0):=(cell_of_row _ _ 0 _ _ (0,0) B1).trans rfl;have c1:w2.cell? ⟨w.heap.size+1,1,none⟩=some (.slice none 0 0):=(cell_of_row _ _ 1 _ _ (0,0) B1).trans rfl;have c2:w2.cell? ⟨w.heap.size+1,2,none⟩=some (.slice none 0 0):=(cell_of_row _ _ 2 _ _ (0,0) B1).trans rfl;obtain ⟨hX,gX⟩:=jbr (.int .i64 0) (.slice none 0 0) (.slice none 0 0) B1;have HX:=jac hX;have GX:=jac (jaq (jaa g0.out (jaa hg1 g2)) gX (by omega));rw [hw2] at f0 f1 f2 c0 c1 c2 HX GX;clear hX gX B1 hc hg1 g2 hw2;go_wp2;refine bodyPost_ret (jd3 rfl _ _ (w.heap.size+1) rfl HX.out) rfl ?_;exact jm8 rfl GX.out
     | ok rr =>
      obtain ⟨ty,l⟩:=rr;obtain ⟨⟨s1,s2,s3⟩,rfl,ho⟩:=hq;obtain ⟨w2,hw2⟩ : ∃ w2,w2=w1.alloc (.cells #[.string out,.int .i64 ty,.slice s1 s2 s3] 50):=⟨_,rfl⟩
      have g2:w1.grownBy w2 none:=by rw [hw2];exact jab _ _
      have hB2:=heap_alloc_new w1 (.cells #[.string out,.int .i64 ty,.slice s1 s2 s3] 50);rw [← hw2] at hB2;have BV:Hid (∀ wx,w2.grownBy wx none→wx.heap[w1.heap.size]?=some (.cells #[.string out,.int .i64 ty,.slice s1 s2 s3] 50 (0,0))):=fun wx hg=>jaf hB2 hg;have HO:=jac ho;obtain ⟨n0,n1,n2,n3,n4⟩:=jai (n:=⟨op,nam,⟨ia,il,ic⟩,out,⟨ao,al,cap⟩⟩) (BN.out w2 (jaa hg1 g2));have M1:=jac (HMC.out w2 ty ⟨s1,s2,s3⟩ l (jaa g0.out (jaa hg1 g2)) rfl (ho.ints.more g2));have G2:=jac (jaa hg1 g2);have G12:=jac g2;simp only at n0 n1 n2 n3 n4 M1;rw [hw2] at n0 n1 n2 n3 n4;clear ho hg1 g2 hB2;go_wp2_with fail;rw [← hw2];clear hw2 n0 n1 n2 n3 n4;refine M1.out.mono ?_;rintro e w3 ⟨hg3,hq⟩;have B3:=BX.out w3 (jaa G2.out hg3);have G3:=jac (jaa g0.out (jaa G2.out hg3));obtain ⟨f0,f1,f2⟩:=ja3 B3;have c0:w3.cell? ⟨w.heap.size+1,0,none⟩=some (.int .i64 0):=(cell_of_row _ _ 0 _ _ (0,0) B3).trans rfl;have c1:w3.cell? ⟨w.heap.size+1,1,none⟩=some (.slice none 0 0):=(cell_of_row _ _ 1 _ _ (0,0) B3).trans rfl;have c2:w3.cell? ⟨w.heap.size+1,2,none⟩=some (.slice none 0 0):=(cell_of_row _ _ 2 _ _ (0,0) B3).trans rfl;obtain ⟨mr,hmr⟩ : ∃ mr,mr=M l:=⟨_,rfl⟩
      rw [← hmr] at hq;have ED:Hid (doR (.ok (ty,l)) M=mr.map fun zs=>(ty,l,zs)):=by rw [hmr];rfl
      cases mr with
      | error c =>
       obtain rfl:=hq;have hc:=H2.out l c hmr.symm;have bc:(c != 0)=true:=by simpa using hc
       obtain ⟨hX,gX⟩:=jbr (.int .i64 0) (.slice none 0 0) (.slice none 0 0) B3;have HX:=jac hX;have GX:=jac (jaq G3.out gX (by omega));clear hX gX B3 hc hg3 hmr;go_wp2;refine bodyPost_ret (jd3 rfl _ _ (w.heap.size+1) rfl HX.out) rfl ?_;exact jm8 ED.out GX.out
      | ok zs =>
       obtain ⟨⟨t1,t2,t3⟩,rfl,ht⟩:=hq;have bv:=BV.out w3 hg3;have v1:w3.cell? ⟨w1.heap.size,1,none⟩=some (.int .i64 ty):=(cell_of_row _ _ 1 _ _ (0,0) bv).trans rfl;have v2:w3.cell? ⟨w1.heap.size,2,none⟩=some (.slice s1 s2 s3):=(cell_of_row _ _ 2 _ _ (0,0) bv).trans rfl;obtain ⟨hX,gX⟩:=jbr (.int .i64 ty) (.slice s1 s2 s3) (.slice t1 t2 t3) B3;have HX:=jac hX;have GX:=jac (jaq G3.out gX (by omega));have z0:=Z0.out;have z1:=g0.out.size;have z2:=G2.out.size;have OD:=jac (((HO.out.more (jaa G12.out hg3) (by cases (Sl.v ⟨s1,s2,s3⟩).ownBlock <;> simp)).base_le (b':=w0.heap.size) (Nat.le_refl _)).more gX (jjx HO.out.1 (by omega)))
       have OT:Hid (jaT _ w2.heap.size (Sl.v ⟨t1,t2,t3⟩) zs):=ht.more gX (jjx ht.1 (by omega));clear hX gX B3 hg3 hmr bv ht z0 z1 z2;go_wp2;refine bodyPost_ret (jd3 rfl _ _ (w.heap.size+1) rfl HX.out) rfl ?_;exact jrE (d:=⟨s1,s2,s3⟩) (t:=⟨t1,t2,t3⟩) ED.out GX.out (OD.out.base_le (by have:=g0.out.size;omega)) ⟨jev OT.out.1 (by have:=g0.out.size;have:=G2.out.size;omega),OT.out.2⟩
theorem jnd (n:Nod) (u:Sl) (r:R (Int×List Int×List Int)) (w:World) (BC:∀ wx,w.grownBy wx none→Calls Tryz.prog 9 #[jax n,.slice u.a u.n u.c,.func (.func 10) #[] #[]] wx (DoQ wx r)) :
    Calls Tryz.prog 6 #[jax n,.slice u.a u.n u.c] w (DoQ w r):=by
     obtain ⟨w0,hw0⟩ : ∃ w0,w0=(w.alloc (.cells #[.string n.op,.string n.name,.slice n.iv.a n.iv.n n.iv.c,.string n.out,.slice n.av.a n.av.n n.av.c] 25)).alloc (.cells #[.int .i64 0,.slice none 0 0,.slice none 0 0] 32):=⟨_,rfl⟩
     have g0:Hid (w.grownBy w0 none):=by show w.grownBy w0 none;rw [hw0];exact jaa (jab _ _) (jab _ _)
     have hbx:=jaJ w (.cells #[.string n.op,.string n.name,.slice n.iv.a n.iv.n n.iv.c,.string n.out,.slice n.av.a n.av.n n.av.c] 25) (.cells #[.int .i64 0,.slice none 0 0,.slice none 0 0] 32);rw [← hw0] at hbx;have BX:Hid (∀ wx,w0.grownBy wx none→wx.heap[w.heap.size+1]?=some (.cells #[.int .i64 0,.slice none 0 0,.slice none 0 0] 32 (0,0))):=fun wx hg=>jaf hbx.2 hg;have Z0:Hid (w.heap.size+1<w0.heap.size):=(Array.getElem?_eq_some_iff.1 hbx.2).1;have N1:=jac (BC w0 g0.out);clear hbx BC;obtain ⟨op,nam,⟨ia,il,ic⟩,out,⟨ao,al,cap⟩⟩:=n;obtain ⟨ua,un,uc⟩:=u;unfold jax at N1 ⊢;simp only at N1 hw0 ⊢;go_enter Tryz.func6,Tryz.ntmps6;go_wp2_with fail;rw [← hw0];clear hw0;refine N1.out.mono ?_;rintro e w3 ⟨hg3,hq⟩;have B3:=BX.out w3 hg3;have G3:=jac (jaa g0.out hg3);obtain ⟨f0,f1,f2⟩:=ja3 B3;have c0:w3.cell? ⟨w.heap.size+1,0,none⟩=some (.int .i64 0):=(cell_of_row _ _ 0 _ _ (0,0) B3).trans rfl;have c1:w3.cell? ⟨w.heap.size+1,1,none⟩=some (.slice none 0 0):=(cell_of_row _ _ 1 _ _ (0,0) B3).trans rfl;have c2:w3.cell? ⟨w.heap.size+1,2,none⟩=some (.slice none 0 0):=(cell_of_row _ _ 2 _ _ (0,0) B3).trans rfl
     cases r with
     | error c =>
      obtain rfl:=hq;obtain ⟨hX,gX⟩:=jbr (.int .i64 0) (.slice none 0 0) (.slice none 0 0) B3;have HX:=jac hX;have GX:=jac (jaq G3.out gX (by omega));clear hX gX B3 hg3;go_wp2;refine bodyPost_ret (jd3 rfl _ _ (w.heap.size+1) rfl HX.out) rfl ?_;exact jm8 rfl GX.out
     | ok rr =>
      obtain ⟨ty,l,zs⟩:=rr;obtain ⟨⟨ty',⟨s1,s2,s3⟩,⟨t1,t2,t3⟩⟩,e1,rfl,hd,ht⟩:=hq;simp only at e1;subst e1;obtain ⟨hX,gX⟩:=jbr (.int .i64 ty') (.slice s1 s2 s3) (.slice t1 t2 t3) B3;have HX:=jac hX;have GX:=jac (jaq G3.out gX (by omega));have OD:=jac (hd.more gX (jjx hd.1 Z0.out));have OT:=jac (ht.more gX (jjx ht.1 Z0.out));clear hX gX B3 hg3 hd ht;unfold jqF;go_wp2;refine bodyPost_ret (jd3 rfl _ _ (w.heap.size+1) rfl HX.out) rfl ?_;exact jrE (d:=⟨s1,s2,s3⟩) (t:=⟨t1,t2,t3⟩) rfl GX.out (OD.out.base_le (by have:=g0.out.size;omega)) ⟨jev OT.out.1 (by have:=g0.out.size;omega),OT.out.2⟩
end Go.Proofs.YtekocmdfaaoggaaGreatDoor
namespace Go.Proofs.YtekocmdfaaoggaaGreatDoor
open Go.RowKit
theorem jqY:Rng 0:=by unfold Rng;omega
theorem jne (n:Int):Rng (wrap64 n):=by
 unfold Rng wrap64;omega
theorem jnf (o:Option Nat) (h:∀ r,o=some r→r<4294967296):Rng (Nu.tobO o):=by
 unfold Rng
 cases o with
 | none=>simp [Nu.tobO]
 | some r =>
  have:=h r rfl;simp only [Nu.tobO,Nu.tob]
  split
  ·omega
  ·omega
theorem jjA {op:BinOp} {x y r:Nat} (h:floatBits op .f32 x y=some r):r<4294967296:=by
 have:=floatBits_wf h;simpa [Lit.wf] using this
theorem jhZ (t n:Int) (h:Rng n):Rng (Nu.wrapT t n):=by
 unfold Nu.wrapT
 split
 ·exact jne _
 ·exact h
theorem jjB (b:Nat) (h:b<4294967296):Rng (Nu.tob b):=by
 unfold Rng;simp only [Nu.tob]
 split <;> omega
theorem jqZ (t x y:Int):Rng (Nu.bin 0 t x y).1:=by
 unfold Nu.bin
 split
 ·split
  ·exact jnf _ fun r h=>jjA h
  ·split
   ·exact jqY
   ·exact jhZ _ _ (jne _)
 ·exact jqY
theorem jpa (x y:Int):Rng (Nu.bin 3 1 x y).1:=by
 unfold Nu.bin
 split
 ·exact jnf _ fun r h=>jjA h
 ·exact jqY
theorem jq0 (t x y:Int) (hx:Rng x) (hy:Rng y):Rng (Nu.bin 4 t x y).1:=by
 unfold Nu.bin
 split
 ·split
  ·show Rng (Nu.maxF (Nu.fb x) (Nu.fb y));unfold Nu.maxF;have h1:=jjB (Nu.fb x) (Nu.fb_lt x);have h2:=jjB (Nu.fb y) (Nu.fb_lt y)
   split
   ·unfold Rng;omega
   ·exact h2
   ·exact h1
   ·split
    ·exact h2
    ·exact h1
  ·split
   ·exact jqY
   ·refine jhZ _ _ ?_;unfold Nu.maxI
    split
    ·exact hy
    ·exact hx
 ·exact jqY
theorem jjC {g:Int→Int→Int} (hg:∀ x y,Rng x→Rng y→Rng (g x y)):∀ (ys:List Int) (z:Int),Rng z→(∀ y∈ys,Rng y)→Rng (ys.foldl g z)
 | [],z,h,_=>h
 | y::ys,z,h,hy=>jjC hg ys _ (hg z y h (hy y (by simp))) (fun q hq=>hy q (by simp [hq]))
theorem jng (g:Int→Int→Int):∀ (ys:List Int) (s:Int×Int×Int),0≤s.1→0≤s.2.1→s.2.1≤s.1→0≤(ys.foldl (jdH g) s).2.1∧(ys.foldl (jdH g) s).2.1≤s.1+ys.length
 | [],s,h0,h1,h2=>⟨h1,by simpa using h2⟩
 | y::ys,s,h0,h1,h2=>by
  rw [List.foldl_cons];have e1:(jdH g s y).1=s.1+1:=rfl
  have e2:(jdH g s y).2.1=s.1+1∨(jdH g s y).2.1=s.2.1:=by
   unfold jdH
   by_cases h:g y s.2.2=1
   ·exact Or.inl (by rw [if_pos h])
   ·exact Or.inr (by rw [if_neg h])
  have k:=jng g ys (jdH g s y) (by omega) (by omega) (by omega);rw [List.length_cons];omega
def jpN (t:Int) (ys:List Int):Int:=ys.foldl (fun x y=>(Nu.bin 0 t x y).1) 0
def ji5 (t:Int) (ys:List Int):Int:=jqO (fun x y=>(Nu.bin 4 t x y).1) ys
def jgm (t:Int) (ys:List Int):Int:=jqQ (fun x y=>(Nu.bin 11 t x y).1) ys
theorem jpb (t:Int) (ys:List Int):Rng (jpN t ys):=by
 unfold jpN
 rcases List.eq_nil_or_concat ys with rfl | ⟨l,a,rfl⟩
 ·exact jqY
 ·rw [List.concat_eq_append,List.foldl_append];exact jqZ _ _ _
theorem jnh (t:Int) (ys:List Int) (h:∀ y∈ys,Rng y):Rng (ji5 t ys):=by
 unfold ji5 jqO;refine jjC (fun x y=>jq0 t x y) _ _ ?_ (fun y hy=>h y (List.mem_of_mem_tail hy))
 cases ys with
 | nil=>exact jqY
 | cons a l=>exact h a (by simp)
theorem jkP (t:Int) (ys:List Int) (hl:ys.length≤65536):Rng (jgm t ys):=by
 have k:=jng (fun x y=>(Nu.bin 11 t x y).1) ys.tail (0,0,ys.getD 0 0) (Int.le_refl _) (Int.le_refl _) (Int.le_refl _);rw [List.length_tail] at k;simp only at k;unfold jgm jqQ Rng;omega
theorem jni (ys:List Int):Rng (jkK ys):=jpa _ _
theorem jjD (n:Nod) (A:At) (hop:n.op=⟨#[82,101,100,117,99,101,83,117,109]⟩) (u:Sl) (T0:Ten) (x xs:List Int) (gone:List Bool) (nam0:ByteArray) (vty:Int) (dv:Sl) (w:World) (hno:NodeOk w n A) (hv:TensIn w u.v [(T0,(x,xs))]) (hf:Fine x) (hl:(xs.length:Int)=jbe x) (hax:jbD x.length (jaQ A x.length) (List.replicate x.length false)=some gone) (hgl:gone.length=x.length) :
    Calls Tryz.prog 10 #[jax n,.slice u.a u.n u.c,.agg #[.string nam0,.int .i64 vty,.slice dv.a dv.n dv.c]] w (EvQ w (.ok (jaZ (jpN T0.ty) xs (plF x gone [0]) (jbA x gone)))):=by
     obtain ⟨za,zn,zc⟩:=dv;obtain ⟨xa,xc,e1,p1,p2,p3⟩:=hv.vals.form;obtain ⟨ua,un,uc⟩:=u;simp only [Sl.v,List.map_cons,List.map_nil,List.length_cons,List.length_nil,Value.slice.injEq] at e1;obtain ⟨rfl,rfl,rfl⟩:=e1;obtain ⟨ub,uo,rfl⟩:=hv.vals.addr (k:=0) (by simp);obtain ⟨t0,t1,t2⟩:=hv.at 0 (by simp);have HH0:=jac (hv.has (T0,(x,xs)) (by simp));obtain ⟨tx,⟨xda,xdn,xdc⟩,⟨xta,xtn,xtc⟩⟩:=T0;simp only [List.getElem_cons_zero,Nat.zero_mul,Nat.add_zero] at t0 t1 t2 HH0;have EC:Hid (∀ (wx:World) (b:Nat) ,w.grownBy wx none→jjt (fun x y=>(Nu.bin 0 tx x y).1) wx b→Calls Tryz.prog 16 #[jax n,.agg #[.int .i64 tx,.slice xda xdn xdc,.slice xta xtn xtc],.func (.func 29) #[] #[.pointer (some ⟨b,0,none⟩)]] wx fun e w'=>∃ s:Sl,e=.returned (.slice s.a s.n s.c)∧jaT w' wx.heap.size s.v (jaZ (jpN tx) xs (plF x gone [0]) (jbA x gone))∧wx.grownBy w' none):=fun wx b hx ob=>joZ n A ⟨tx,⟨xda,xdn,xdc⟩,⟨xta,xtn,xtc⟩⟩ x xs gone (jpN tx) b wx (hno.more hx) (HH0.out.1.more hx) (HH0.out.2.more hx) hf hl hax hgl (fun ys h1 h2 h3=>jpb tx ys) (fun wy u ys h1 h2 h3 h4=>jeK _ b u ys wy h2 (ob.more h1));obtain ⟨R0,hR0⟩ : ∃ R0,R0=jaZ (jpN tx) xs (plF x gone [0]) (jbA x gone):=⟨_,rfl⟩
     simp only;rw [← hR0] at EC ⊢;have SU:=jac (fun w=>jg1 tx w);obtain ⟨op,nam,⟨ia,il,ic⟩,out,⟨ao,al,cap⟩⟩:=n;simp only at hop;subst hop;unfold jax at EC ⊢;simp only at EC ⊢;obtain ⟨w0,hw0⟩ : ∃ w0,w0=(w.alloc (.cells #[.string ⟨#[82,101,100,117,99,101,83,117,109]⟩,.string nam,.slice ia il ic,.string out,.slice ao al cap] 25)).alloc (.cells #[.string nam0,.int .i64 vty,.slice za zn zc] 50):=⟨_,rfl⟩
     have g0:w.grownBy w0 none:=by rw [hw0];exact jaa (jab _ _) (jab _ _)
     have hbx:=jaJ w (.cells #[.string ⟨#[82,101,100,117,99,101,83,117,109]⟩,.string nam,.slice ia il ic,.string out,.slice ao al cap] 25) (.cells #[.string nam0,.int .i64 vty,.slice za zn zc] 50);rw [← hw0] at hbx;obtain ⟨n0,n1,n2,n3,n4⟩:=jai (n:=⟨⟨#[82,101,100,117,99,101,83,117,109]⟩,nam,⟨ia,il,ic⟩,out,⟨ao,al,cap⟩⟩) hbx.1;have t0:=jad t0 g0;have t1:=jad t1 g0;have t2:=jad t2 g0;have G0:=jac g0;have i0':(0:Int)<1:=by decide
     clear hbx hv hno hf hl hax hgl g0 p1 p2 p3 hR0 HH0;rw [hw0] at n0;go_enter Tryz.func10,Tryz.ntmps10
     go_upto_region 3 with fail
     rw [← hw0];rw [← hw0] at n0;clear hw0;refine wp_region_held_drew (S:=fun w'=>w0.grownBy w' none) (by kernel_rfl) (jag (jae _)) (fun hHeld=>?_);refine tkC 0 ?_ (hv:=by intro wS hSw;have c0:=jad n0 hSw;have c1:=jad n1 hSw;have c2:=jad n2 hSw;have c3:=jad n3 hSw;have c4:=jad n4 hSw;go_simp;(try with_reducible rfl))
     try simp only [Act.put]
     refine tkC 1 ?_ (hv:=by intro wS hSw;go_simp;(try with_reducible rfl))
     try simp only [Act.put]
     refine tkC 2 ?_ (hv:=by intro wS hSw;go_simp;(try with_reducible rfl))
     try simp only [Act.put]
     refine tkC 3 ?_ (hv:=by intro wS hSw;have c0:=jad t0 hSw;have c1:=jad t1 hSw;have c2:=jad t2 hSw;go_simp;(try with_reducible rfl))
     try simp only [Act.put]
     refine tkC 4 ?_ (hv:=by intro wS hSw;go_simp;(try with_reducible rfl))
     try simp only [Act.put]
     refine tkC 5 ?_ (hv:=by intro wS hSw;go_simp;(try with_reducible rfl))
     try simp only [Act.put]
     refine tkC 6 ?_ (hv:=by intro wS hSw;go_simp;(try with_reducible rfl))
     try simp only [Act.put]
     refine tkC 7 ?_ (hv:=by intro wS hSw;have c0:=jad t0 hSw;go_simp;(try with_reducible rfl))
     try simp only [Act.put]
     have g:w0.grownBy w0.drew none:=hHeld;generalize hv:w0.drew=v at g hHeld ⊢;clear hv hHeld;refine rdA 8 fun K hK=>?_;go_simp;refine (SU.out v).mono ?_;rintro e w1 ⟨b,rfl,ob,hg1⟩;have g1:=jaa g hg1;refine hK.out _ _ g1 (fun hHeld=>?_);clear hK K hHeld
     try simp only [Act.put]
     refine rdA 9 fun K hK=>?_;go_simp;refine (EC.out w1 b (jaa G0.out g1) ob).mono ?_;rintro e w2 ⟨⟨sa,sn,sc⟩,rfl,os,hg2⟩;have g2:=jaa g1 hg2;refine hK.out _ _ g2 (fun hHeld=>?_);clear hK K hHeld
     try simp only
     refine tkC 10 ?_ (hv:=by intro wS hSw;go_simp;(try with_reducible rfl))
     try simp only [Act.put]
     refine tkC 11 ?_ (hv:=by intro wS hSw;go_simp;(try with_reducible rfl))
     try simp only [Act.put]
     refine wpAnyH_done (by kernel_rfl) ?_ _;have hz:=Nat.le_trans G0.out.size g1.size;have OS:=jac (show jaT w2 w.heap.size (Sl.v ⟨sa,sn,sc⟩) R0 from ⟨jaL os.1 hz,os.2⟩);have G2:=jac (jaa G0.out g2);clear os hg2 g1 g2 hz;go_simp;go_wp2;go_ret2;exact ⟨G2.out,⟨sa,sn,sc⟩,rfl,OS.out⟩
theorem jpc (n:Nod) (A:At) (hop:n.op=⟨#[82,101,100,117,99,101,77,97,120]⟩) (u:Sl) (T0:Ten) (x xs:List Int) (gone:List Bool) (nam0:ByteArray) (vty:Int) (dv:Sl) (w:World) (hno:NodeOk w n A) (hv:TensIn w u.v [(T0,(x,xs))]) (hf:Fine x) (hl:(xs.length:Int)=jbe x) (hax:jbD x.length (jaQ A x.length) (List.replicate x.length false)=some gone) (hgl:gone.length=x.length) :
    Calls Tryz.prog 10 #[jax n,.slice u.a u.n u.c,.agg #[.string nam0,.int .i64 vty,.slice dv.a dv.n dv.c]] w (EvQ w (.ok (jaZ (ji5 T0.ty) xs (plF x gone [0]) (jbA x gone)))):=by
     obtain ⟨za,zn,zc⟩:=dv;obtain ⟨xa,xc,e1,p1,p2,p3⟩:=hv.vals.form;obtain ⟨ua,un,uc⟩:=u;simp only [Sl.v,List.map_cons,List.map_nil,List.length_cons,List.length_nil,Value.slice.injEq] at e1;obtain ⟨rfl,rfl,rfl⟩:=e1;obtain ⟨ub,uo,rfl⟩:=hv.vals.addr (k:=0) (by simp);obtain ⟨t0,t1,t2⟩:=hv.at 0 (by simp);have HH0:=jac (hv.has (T0,(x,xs)) (by simp));obtain ⟨tx,⟨xda,xdn,xdc⟩,⟨xta,xtn,xtc⟩⟩:=T0;simp only [List.getElem_cons_zero,Nat.zero_mul,Nat.add_zero] at t0 t1 t2 HH0;have EC:Hid (∀ (wx:World) (b:Nat) ,w.grownBy wx none→jjt (fun x y=>(Nu.bin 4 tx x y).1) wx b→Calls Tryz.prog 16 #[jax n,.agg #[.int .i64 tx,.slice xda xdn xdc,.slice xta xtn xtc],.func (.func 32) #[] #[.pointer (some ⟨b,0,none⟩)]] wx fun e w'=>∃ s:Sl,e=.returned (.slice s.a s.n s.c)∧jaT w' wx.heap.size s.v (jaZ (ji5 tx) xs (plF x gone [0]) (jbA x gone))∧wx.grownBy w' none):=fun wx b hx ob=>jo0 n A ⟨tx,⟨xda,xdn,xdc⟩,⟨xta,xtn,xtc⟩⟩ x xs gone (ji5 tx) b wx (hno.more hx) (HH0.out.1.more hx) (HH0.out.2.more hx) hf hl hax hgl (fun ys h1 h2 h3=>jnh tx ys h1) (fun wy u ys h1 h2 h3 h4=>jcU _ b u ys wy h2 h3 (ob.more h1));obtain ⟨R0,hR0⟩ : ∃ R0,R0=jaZ (ji5 tx) xs (plF x gone [0]) (jbA x gone):=⟨_,rfl⟩
     simp only;rw [← hR0] at EC ⊢;have SU:=jac (fun w=>jda tx w);obtain ⟨op,nam,⟨ia,il,ic⟩,out,⟨ao,al,cap⟩⟩:=n;simp only at hop;subst hop;unfold jax at EC ⊢;simp only at EC ⊢;obtain ⟨w0,hw0⟩ : ∃ w0,w0=(w.alloc (.cells #[.string ⟨#[82,101,100,117,99,101,77,97,120]⟩,.string nam,.slice ia il ic,.string out,.slice ao al cap] 25)).alloc (.cells #[.string nam0,.int .i64 vty,.slice za zn zc] 50):=⟨_,rfl⟩
     have g0:w.grownBy w0 none:=by rw [hw0];exact jaa (jab _ _) (jab _ _)
     have hbx:=jaJ w (.cells #[.string ⟨#[82,101,100,117,99,101,77,97,120]⟩,.string nam,.slice ia il ic,.string out,.slice ao al cap] 25) (.cells #[.string nam0,.int .i64 vty,.slice za zn zc] 50);rw [← hw0] at hbx;obtain ⟨n0,n1,n2,n3,n4⟩:=jai (n:=⟨⟨#[82,101,100,117,99,101,77,97,120]⟩,nam,⟨ia,il,ic⟩,out,⟨ao,al,cap⟩⟩) hbx.1;have t0:=jad t0 g0;have t1:=jad t1 g0;have t2:=jad t2 g0;have G0:=jac g0;have i0':(0:Int)<1:=by decide
     clear hbx hv hno hf hl hax hgl g0 p1 p2 p3 hR0 HH0;rw [hw0] at n0;go_enter Tryz.func10,Tryz.ntmps10
     go_upto_region 7 with fail
     rw [← hw0];rw [← hw0] at n0;clear hw0;refine wp_region_held_drew (S:=fun w'=>w0.grownBy w' none) (by kernel_rfl) (jag (jae _)) (fun hHeld=>?_);refine tkC 0 ?_ (hv:=by intro wS hSw;have c0:=jad n0 hSw;have c1:=jad n1 hSw;have c2:=jad n2 hSw;have c3:=jad n3 hSw;have c4:=jad n4 hSw;go_simp;(try with_reducible rfl))
     try simp only [Act.put]
     refine tkC 1 ?_ (hv:=by intro wS hSw;go_simp;(try with_reducible rfl))
     try simp only [Act.put]
     refine tkC 2 ?_ (hv:=by intro wS hSw;go_simp;(try with_reducible rfl))
     try simp only [Act.put]
     refine tkC 3 ?_ (hv:=by intro wS hSw;have c0:=jad t0 hSw;have c1:=jad t1 hSw;have c2:=jad t2 hSw;go_simp;(try with_reducible rfl))
     try simp only [Act.put]
     refine tkC 4 ?_ (hv:=by intro wS hSw;go_simp;(try with_reducible rfl))
     try simp only [Act.put]
     refine tkC 5 ?_ (hv:=by intro wS hSw;go_simp;(try with_reducible rfl))
     try simp only [Act.put]
     refine tkC 6 ?_ (hv:=by intro wS hSw;go_simp;(try with_reducible rfl))
     try simp only [Act.put]
     refine tkC 7 ?_ (hv:=by intro wS hSw;have c0:=jad t0 hSw;go_simp;(try with_reducible rfl))
     try simp only [Act.put]
     have g:w0.grownBy w0.drew none:=hHeld;generalize hv:w0.drew=v at g hHeld ⊢;clear hv hHeld;refine rdA 8 fun K hK=>?_;go_simp;refine (SU.out v).mono ?_;rintro e w1 ⟨b,rfl,ob,hg1⟩;have g1:=jaa g hg1;refine hK.out _ _ g1 (fun hHeld=>?_);clear hK K hHeld
     try simp only [Act.put]
     refine rdA 9 fun K hK=>?_;go_simp;refine (EC.out w1 b (jaa G0.out g1) ob).mono ?_;rintro e w2 ⟨⟨sa,sn,sc⟩,rfl,os,hg2⟩;have g2:=jaa g1 hg2;refine hK.out _ _ g2 (fun hHeld=>?_);clear hK K hHeld
     try simp only
     refine tkC 10 ?_ (hv:=by intro wS hSw;go_simp;(try with_reducible rfl))
     try simp only [Act.put]
     refine tkC 11 ?_ (hv:=by intro wS hSw;go_simp;(try with_reducible rfl))
     try simp only [Act.put]
     refine wpAnyH_done (by kernel_rfl) ?_ _;have hz:=Nat.le_trans G0.out.size g1.size;have OS:=jac (show jaT w2 w.heap.size (Sl.v ⟨sa,sn,sc⟩) R0 from ⟨jaL os.1 hz,os.2⟩);have G2:=jac (jaa G0.out g2);clear os hg2 g1 g2 hz;go_simp;go_wp2;go_ret2;exact ⟨G2.out,⟨sa,sn,sc⟩,rfl,OS.out⟩
theorem jpd (n:Nod) (A:At) (hop:n.op=⟨#[65,114,103,77,97,120]⟩) (u:Sl) (T0:Ten) (x xs:List Int) (gone:List Bool) (nam0:ByteArray) (vty:Int) (dv:Sl) (w:World) (hno:NodeOk w n A) (hv:TensIn w u.v [(T0,(x,xs))]) (hf:Fine x) (hl:(xs.length:Int)=jbe x) (hax:jbD x.length (jaQ A x.length) (List.replicate x.length false)=some gone) (hgl:gone.length=x.length) :
    Calls Tryz.prog 10 #[jax n,.slice u.a u.n u.c,.agg #[.string nam0,.int .i64 vty,.slice dv.a dv.n dv.c]] w (EvQ w (.ok (jaZ (jgm T0.ty) xs (plF x gone [0]) (jbA x gone)))):=by
     obtain ⟨za,zn,zc⟩:=dv;obtain ⟨xa,xc,e1,p1,p2,p3⟩:=hv.vals.form;obtain ⟨ua,un,uc⟩:=u;simp only [Sl.v,List.map_cons,List.map_nil,List.length_cons,List.length_nil,Value.slice.injEq] at e1;obtain ⟨rfl,rfl,rfl⟩:=e1;obtain ⟨ub,uo,rfl⟩:=hv.vals.addr (k:=0) (by simp);obtain ⟨t0,t1,t2⟩:=hv.at 0 (by simp);have HH0:=jac (hv.has (T0,(x,xs)) (by simp));obtain ⟨tx,⟨xda,xdn,xdc⟩,⟨xta,xtn,xtc⟩⟩:=T0;simp only [List.getElem_cons_zero,Nat.zero_mul,Nat.add_zero] at t0 t1 t2 HH0;have EC:Hid (∀ (wx:World) (b:Nat) ,w.grownBy wx none→jjt (fun x y=>(Nu.bin 11 tx x y).1) wx b→Calls Tryz.prog 16 #[jax n,.agg #[.int .i64 tx,.slice xda xdn xdc,.slice xta xtn xtc],.func (.func 33) #[] #[.pointer (some ⟨b,0,none⟩)]] wx fun e w'=>∃ s:Sl,e=.returned (.slice s.a s.n s.c)∧jaT w' wx.heap.size s.v (jaZ (jgm tx) xs (plF x gone [0]) (jbA x gone))∧wx.grownBy w' none):=fun wx b hx ob=>jo1 n A ⟨tx,⟨xda,xdn,xdc⟩,⟨xta,xtn,xtc⟩⟩ x xs gone (jgm tx) b wx (hno.more hx) (HH0.out.1.more hx) (HH0.out.2.more hx) hf hl hax hgl (fun ys h1 h2 h3=>jkP tx ys h3) (fun wy u ys h1 h2 h3 h4=>joX _ b u ys wy h2 h3 h4 (ob.more h1));obtain ⟨R0,hR0⟩ : ∃ R0,R0=jaZ (jgm tx) xs (plF x gone [0]) (jbA x gone):=⟨_,rfl⟩
     simp only;rw [← hR0] at EC ⊢;have SU:=jac (fun w=>jen tx w);obtain ⟨op,nam,⟨ia,il,ic⟩,out,⟨ao,al,cap⟩⟩:=n;simp only at hop;subst hop;unfold jax at EC ⊢;simp only at EC ⊢;obtain ⟨w0,hw0⟩ : ∃ w0,w0=(w.alloc (.cells #[.string ⟨#[65,114,103,77,97,120]⟩,.string nam,.slice ia il ic,.string out,.slice ao al cap] 25)).alloc (.cells #[.string nam0,.int .i64 vty,.slice za zn zc] 50):=⟨_,rfl⟩
     have g0:w.grownBy w0 none:=by rw [hw0];exact jaa (jab _ _) (jab _ _)
     have hbx:=jaJ w (.cells #[.string ⟨#[65,114,103,77,97,120]⟩,.string nam,.slice ia il ic,.string out,.slice ao al cap] 25) (.cells #[.string nam0,.int .i64 vty,.slice za zn zc] 50);rw [← hw0] at hbx;obtain ⟨n0,n1,n2,n3,n4⟩:=jai (n:=⟨⟨#[65,114,103,77,97,120]⟩,nam,⟨ia,il,ic⟩,out,⟨ao,al,cap⟩⟩) hbx.1;have t0:=jad t0 g0;have t1:=jad t1 g0;have t2:=jad t2 g0;have G0:=jac g0;have i0':(0:Int)<1:=by decide
     clear hbx hv hno hf hl hax hgl g0 p1 p2 p3 hR0 HH0;rw [hw0] at n0;go_enter Tryz.func10,Tryz.ntmps10
     go_upto_region 9 with fail
     rw [← hw0];rw [← hw0] at n0;clear hw0;refine wp_region_held_drew (S:=fun w'=>w0.grownBy w' none) (by kernel_rfl) (jag (jae _)) (fun hHeld=>?_);refine tkC 0 ?_ (hv:=by intro wS hSw;have c0:=jad n0 hSw;have c1:=jad n1 hSw;have c2:=jad n2 hSw;have c3:=jad n3 hSw;have c4:=jad n4 hSw;go_simp;(try with_reducible rfl))
     try simp only [Act.put]
     refine tkC 1 ?_ (hv:=by intro wS hSw;go_simp;(try with_reducible rfl))
     try simp only [Act.put]
     refine tkC 2 ?_ (hv:=by intro wS hSw;go_simp;(try with_reducible rfl))
     try simp only [Act.put]
     refine tkC 3 ?_ (hv:=by intro wS hSw;have c0:=jad t0 hSw;have c1:=jad t1 hSw;have c2:=jad t2 hSw;go_simp;(try with_reducible rfl))
     try simp only [Act.put]
     refine tkC 4 ?_ (hv:=by intro wS hSw;go_simp;(try with_reducible rfl))
     try simp only [Act.put]
     refine tkC 5 ?_ (hv:=by intro wS hSw;go_simp;(try with_reducible rfl))
     try simp only [Act.put]
     refine tkC 6 ?_ (hv:=by intro wS hSw;go_simp;(try with_reducible rfl))
     try simp only [Act.put]
     refine tkC 7 ?_ (hv:=by intro wS hSw;have c0:=jad t0 hSw;go_simp;(try with_reducible rfl))
     try simp only [Act.put]
     have g:w0.grownBy w0.drew none:=hHeld;generalize hv:w0.drew=v at g hHeld ⊢;clear hv hHeld;refine rdA 8 fun K hK=>?_;go_simp;refine (SU.out v).mono ?_;rintro e w1 ⟨b,rfl,ob,hg1⟩;have g1:=jaa g hg1;refine hK.out _ _ g1 (fun hHeld=>?_);clear hK K hHeld
     try simp only [Act.put]
     refine rdA 9 fun K hK=>?_;go_simp;refine (EC.out w1 b (jaa G0.out g1) ob).mono ?_;rintro e w2 ⟨⟨sa,sn,sc⟩,rfl,os,hg2⟩;have g2:=jaa g1 hg2;refine hK.out _ _ g2 (fun hHeld=>?_);clear hK K hHeld
     try simp only
     refine tkC 10 ?_ (hv:=by intro wS hSw;go_simp;(try with_reducible rfl))
     try simp only [Act.put]
     refine tkC 11 ?_ (hv:=by intro wS hSw;go_simp;(try with_reducible rfl))
     try simp only [Act.put]
     refine wpAnyH_done (by kernel_rfl) ?_ _;have hz:=Nat.le_trans G0.out.size g1.size;have OS:=jac (show jaT w2 w.heap.size (Sl.v ⟨sa,sn,sc⟩) R0 from ⟨jaL os.1 hz,os.2⟩);have G2:=jac (jaa G0.out g2);clear os hg2 g1 g2 hz;go_simp;go_wp2;go_ret2;exact ⟨G2.out,⟨sa,sn,sc⟩,rfl,OS.out⟩
theorem jnj (n:Nod) (A:At) (hop:n.op=⟨#[82,101,100,117,99,101,77,101,97,110]⟩) (u:Sl) (T0:Ten) (x xs:List Int) (gone:List Bool) (nam0:ByteArray) (vty:Int) (dv:Sl) (w:World) (hno:NodeOk w n A) (hv:TensIn w u.v [(T0,(x,xs))]) (hf:Fine x) (hl:(xs.length:Int)=jbe x) (hax:jbD x.length (jaQ A x.length) (List.replicate x.length false)=some gone) (hgl:gone.length=x.length) :
    Calls Tryz.prog 10 #[jax n,.slice u.a u.n u.c,.agg #[.string nam0,.int .i64 vty,.slice dv.a dv.n dv.c]] w (EvQ w (.ok (jaZ jkK xs (plF x gone [0]) (jbA x gone)))):=by
     obtain ⟨za,zn,zc⟩:=dv;obtain ⟨xa,xc,e1,p1,p2,p3⟩:=hv.vals.form;obtain ⟨ua,un,uc⟩:=u;simp only [Sl.v,List.map_cons,List.map_nil,List.length_cons,List.length_nil,Value.slice.injEq] at e1;obtain ⟨rfl,rfl,rfl⟩:=e1;obtain ⟨ub,uo,rfl⟩:=hv.vals.addr (k:=0) (by simp);obtain ⟨t0,t1,t2⟩:=hv.at 0 (by simp);have HH0:=jac (hv.has (T0,(x,xs)) (by simp));obtain ⟨tx,⟨xda,xdn,xdc⟩,⟨xta,xtn,xtc⟩⟩:=T0;simp only [List.getElem_cons_zero,Nat.zero_mul,Nat.add_zero] at t0 t1 t2 HH0;have EC:Hid (∀ (wx:World) ,w.grownBy wx none→Calls Tryz.prog 16 #[jax n,.agg #[.int .i64 tx,.slice xda xdn xdc,.slice xta xtn xtc],.func (.func 18) #[] #[]] wx fun e w'=>∃ s:Sl,e=.returned (.slice s.a s.n s.c)∧jaT w' wx.heap.size s.v (jaZ jkK xs (plF x gone [0]) (jbA x gone))∧wx.grownBy w' none):=fun wx hx=>jm4 n A ⟨tx,⟨xda,xdn,xdc⟩,⟨xta,xtn,xtc⟩⟩ x xs gone jkK 0 wx (hno.more hx) (HH0.out.1.more hx) (HH0.out.2.more hx) hf hl hax hgl (fun ys h1 h2 h3=>jni ys) (fun wy u ys h1 h2 h3 h4=>joV u ys wy h2);obtain ⟨R0,hR0⟩ : ∃ R0,R0=jaZ jkK xs (plF x gone [0]) (jbA x gone):=⟨_,rfl⟩
     simp only;rw [← hR0] at EC ⊢;obtain ⟨op,nam,⟨ia,il,ic⟩,out,⟨ao,al,cap⟩⟩:=n;simp only at hop;subst hop;unfold jax at EC ⊢;simp only at EC ⊢;obtain ⟨w0,hw0⟩ : ∃ w0,w0=(w.alloc (.cells #[.string ⟨#[82,101,100,117,99,101,77,101,97,110]⟩,.string nam,.slice ia il ic,.string out,.slice ao al cap] 25)).alloc (.cells #[.string nam0,.int .i64 vty,.slice za zn zc] 50):=⟨_,rfl⟩
     have g0:w.grownBy w0 none:=by rw [hw0];exact jaa (jab _ _) (jab _ _)
     have hbx:=jaJ w (.cells #[.string ⟨#[82,101,100,117,99,101,77,101,97,110]⟩,.string nam,.slice ia il ic,.string out,.slice ao al cap] 25) (.cells #[.string nam0,.int .i64 vty,.slice za zn zc] 50);rw [← hw0] at hbx;obtain ⟨n0,n1,n2,n3,n4⟩:=jai (n:=⟨⟨#[82,101,100,117,99,101,77,101,97,110]⟩,nam,⟨ia,il,ic⟩,out,⟨ao,al,cap⟩⟩) hbx.1;have t0:=jad t0 g0;have t1:=jad t1 g0;have t2:=jad t2 g0;have G0:=jac g0;have i0':(0:Int)<1:=by decide
     clear hbx hv hno hf hl hax hgl g0 p1 p2 p3 hR0 HH0;rw [hw0] at n0;go_enter Tryz.func10,Tryz.ntmps10
     go_upto_region 5 with fail
     rw [← hw0];rw [← hw0] at n0;clear hw0;refine wp_region_held_drew (S:=fun w'=>w0.grownBy w' none) (by kernel_rfl) (jag (jae _)) (fun hHeld=>?_);refine tkC 0 ?_ (hv:=by intro wS hSw;have c0:=jad n0 hSw;have c1:=jad n1 hSw;have c2:=jad n2 hSw;have c3:=jad n3 hSw;have c4:=jad n4 hSw;go_simp;(try with_reducible rfl))
     try simp only [Act.put]
     refine tkC 1 ?_ (hv:=by intro wS hSw;go_simp;(try with_reducible rfl))
     try simp only [Act.put]
     refine tkC 2 ?_ (hv:=by intro wS hSw;go_simp;(try with_reducible rfl))
     try simp only [Act.put]
     refine tkC 3 ?_ (hv:=by intro wS hSw;have c0:=jad t0 hSw;have c1:=jad t1 hSw;have c2:=jad t2 hSw;go_simp;(try with_reducible rfl))
     try simp only [Act.put]
     have g:w0.grownBy w0.drew none:=hHeld;generalize hv:w0.drew=v at g hHeld ⊢;clear hv hHeld;refine rdA 4 fun K hK=>?_;go_simp;refine (EC.out v (jaa G0.out g)).mono ?_;rintro e w2 ⟨⟨sa,sn,sc⟩,rfl,os,hg2⟩;have g1:=g;have g2:=jaa g1 hg2;refine hK.out _ _ g2 (fun hHeld=>?_);clear hK K hHeld
     try simp only
     refine tkC 5 ?_ (hv:=by intro wS hSw;go_simp;(try with_reducible rfl))
     try simp only [Act.put]
     refine tkC 6 ?_ (hv:=by intro wS hSw;go_simp;(try with_reducible rfl))
     try simp only [Act.put]
     refine wpAnyH_done (by kernel_rfl) ?_ _;have hz:=Nat.le_trans G0.out.size g1.size;have OS:=jac (show jaT w2 w.heap.size (Sl.v ⟨sa,sn,sc⟩) R0 from ⟨jaL os.1 hz,os.2⟩);have G2:=jac (jaa G0.out g2);clear os hg2 g1 g2 hz;go_simp;go_wp2;go_ret2;exact ⟨G2.out,⟨sa,sn,sc⟩,rfl,OS.out⟩
theorem jkQ (n:Nod) (A:At) (hop:n.op=⟨#[83,111,102,116,109,97,120]⟩) (u:Sl) (T0:Ten) (nam0:ByteArray) (vty:Int) (dv:Sl) (w:World) (hno:NodeOk w n A) (hv:TensIn w u.v [(T0,([2],[0,0]))]) (hax:jbD 1 (jaQ A 1) (List.replicate 1 false)=some [true]) :
    Calls Tryz.prog 10 #[jax n,.slice u.a u.n u.c,.agg #[.string nam0,.int .i64 vty,.slice dv.a dv.n dv.c]] w (EvQ w (.ok [1056964608,1056964608])):=by
     obtain ⟨za,zn,zc⟩:=dv;obtain ⟨xa,xc,e1,p1,p2,p3⟩:=hv.vals.form;obtain ⟨ua,un,uc⟩:=u;simp only [Sl.v,List.map_cons,List.map_nil,List.length_cons,List.length_nil,Value.slice.injEq] at e1;obtain ⟨rfl,rfl,rfl⟩:=e1;obtain ⟨ub,uo,rfl⟩:=hv.vals.addr (k:=0) (by simp);obtain ⟨t0,t1,t2⟩:=hv.at 0 (by simp);have HH0:=jac (hv.has (T0,([2],[0,0])) (by simp));obtain ⟨tx,⟨xda,xdn,xdc⟩,⟨xta,xtn,xtc⟩⟩:=T0;simp only [List.getElem_cons_zero,Nat.zero_mul,Nat.add_zero] at t0 t1 t2 HH0;have EC:Hid (∀ (wx:World),w.grownBy wx none→Calls Tryz.prog 21 #[jax n,.agg #[.int .i64 tx,.slice xda xdn xdc,.slice xta xtn xtc]] wx fun e w'=>∃ s:Sl,e=.returned (.slice s.a s.n s.c)∧jaT w' wx.heap.size s.v [1056964608,1056964608]∧wx.grownBy w' none):=fun wx hx=>jo6 n A ⟨tx,⟨xda,xdn,xdc⟩,⟨xta,xtn,xtc⟩⟩ wx (hno.more hx) (HH0.out.1.more hx) (HH0.out.2.more hx) hax;obtain ⟨R0,hR0⟩ : ∃ R0:List Int,R0=[1056964608,1056964608]:=⟨_,rfl⟩
     rw [← hR0] at EC ⊢;obtain ⟨op,nam,⟨ia,il,ic⟩,out,⟨ao,al,cap⟩⟩:=n;simp only at hop;subst hop;unfold jax at EC ⊢;simp only at EC ⊢;obtain ⟨w0,hw0⟩ : ∃ w0,w0=(w.alloc (.cells #[.string ⟨#[83,111,102,116,109,97,120]⟩,.string nam,.slice ia il ic,.string out,.slice ao al cap] 25)).alloc (.cells #[.string nam0,.int .i64 vty,.slice za zn zc] 50):=⟨_,rfl⟩
     have g0:w.grownBy w0 none:=by rw [hw0];exact jaa (jab _ _) (jab _ _)
     have hbx:=jaJ w (.cells #[.string ⟨#[83,111,102,116,109,97,120]⟩,.string nam,.slice ia il ic,.string out,.slice ao al cap] 25) (.cells #[.string nam0,.int .i64 vty,.slice za zn zc] 50);rw [← hw0] at hbx;obtain ⟨n0,n1,n2,n3,n4⟩:=jai (n:=⟨⟨#[83,111,102,116,109,97,120]⟩,nam,⟨ia,il,ic⟩,out,⟨ao,al,cap⟩⟩) hbx.1;have t0:=jad t0 g0;have t1:=jad t1 g0;have t2:=jad t2 g0;have G0:=jac g0;have i0':(0:Int)<1:=by decide
     clear hbx hv hno hax g0 p1 p2 p3 hR0 HH0;rw [hw0] at n0;go_enter Tryz.func10,Tryz.ntmps10
     go_upto_region 11 with fail
     rw [← hw0];rw [← hw0] at n0;clear hw0;refine wp_region_held_drew (S:=fun w'=>w0.grownBy w' none) (by kernel_rfl) (jag (jae _)) (fun hHeld=>?_);refine tkC 0 ?_ (hv:=by intro wS hSw;have c0:=jad n0 hSw;have c1:=jad n1 hSw;have c2:=jad n2 hSw;have c3:=jad n3 hSw;have c4:=jad n4 hSw;go_simp;(try with_reducible rfl))
     try simp only [Act.put]
     refine tkC 1 ?_ (hv:=by intro wS hSw;go_simp;(try with_reducible rfl))
     try simp only [Act.put]
     refine tkC 2 ?_ (hv:=by intro wS hSw;go_simp;(try with_reducible rfl))
     try simp only [Act.put]
     refine tkC 3 ?_ (hv:=by intro wS hSw;have c0:=jad t0 hSw;have c1:=jad t1 hSw;have c2:=jad t2 hSw;go_simp;(try with_reducible rfl))
     try simp only [Act.put]
     have g:w0.grownBy w0.drew none:=hHeld;generalize hv:w0.drew=v at g hHeld ⊢;clear hv hHeld;refine rdA 4 fun K hK=>?_;go_simp;refine (EC.out v (jaa G0.out g)).mono ?_;rintro e w2 ⟨⟨sa,sn,sc⟩,rfl,os,hg2⟩;have g1:=g;have g2:=jaa g1 hg2;refine hK.out _ _ g2 (fun hHeld=>?_);clear hK K hHeld
     try simp only
     refine tkC 5 ?_ (hv:=by intro wS hSw;go_simp;(try with_reducible rfl))
     try simp only [Act.put]
     refine tkC 6 ?_ (hv:=by intro wS hSw;go_simp;(try with_reducible rfl))
     try simp only [Act.put]
     refine wpAnyH_done (by kernel_rfl) ?_ _;have hz:=Nat.le_trans G0.out.size g1.size;have OS:=jac (show jaT w2 w.heap.size (Sl.v ⟨sa,sn,sc⟩) R0 from ⟨jaL os.1 hz,os.2⟩);have G2:=jac (jaa G0.out g2);clear os hg2 g1 g2 hz;go_simp;go_wp2;go_ret2;exact ⟨G2.out,⟨sa,sn,sc⟩,rfl,OS.out⟩
end Go.Proofs.YtekocmdfaaoggaaGreatDoor
namespace Go.Proofs.YtekocmdfaaoggaaGreatDoor
open Go.RowKit
def jpe (t:Int) (x:List Int) (ts:R Int) (d:R (List Int)):R (Int×List Int) :=
 (jfx t).bind fun _=>(jaS x).bind fun _=>ts.bind fun t'=>d.bind fun d=>(jaS d).bind fun _=>.ok (t',d)
theorem jrJ (v0:Val) (x:List Int) (ts:R Int) (d:R (List Int)):jby 0 true [(v0,x)] ts d []=jpe v0.ty x ts d:=by
 unfold jby jpe;simp only [jfJ,jal,if_true,jei,jc7,ji4]
 rfl
theorem jpf {t ty:Int} {x l:List Int} {ts:R Int} {d:R (List Int)} (h:jpe t x ts d=.ok (ty,l)):jbt x=0∧ts=.ok ty∧d=.ok l∧jbt l=0:=by
 unfold jpe at h;obtain ⟨_,-,h⟩:=jaK h;obtain ⟨_,hx,h⟩:=jaK h;obtain ⟨t',ht,h⟩:=jaK h;obtain ⟨d',hd,h⟩:=jaK h;obtain ⟨_,hc,h⟩:=jaK h
 cases h
 exact ⟨jg5 hx,ht,hd,jg5 hc⟩
theorem jfT {α β:Type} {c:Int} {r:R α} {f:α→R β} (h:r.bind f=.error c):r=.error c∨∃ a,r=.ok a∧f a=.error c:=by
 cases r with
 | error c'=>exact .inl (by cases h;rfl)
 | ok a=>exact .inr ⟨a,rfl,h⟩
theorem jjE {b:Bool} {c:Int} (h:jal b=.error c):c≠0:=by
 unfold jal at h
 split at h
 ·cases h
 ·cases h;decide
theorem jjF {l:List Int} {r:Nat} {c:Int} (h:jbv l r=.error c):c≠0:=by
 unfold jbv at h
 split at h
 ·cases h
 ·cases h;decide
theorem jq1 {z c:Int} (h:jd9 z=.error c):c≠0:=by
 unfold jd9 at h
 split at h
 ·cases h
 ·split at h
  ·cases h
  ·cases h;decide
theorem jkR (A:At) (x:List Int):∀ c,ja7 A x=.error c→c≠0:=by
 intro c h;unfold ja7 at h
 rcases jfT h with h | ⟨_,-,h⟩
 ·exact jq1 h
 rcases jfT h with h | ⟨_,-,h⟩
 ·exact jjF h
 ·cases h
theorem jnk (t:Int) (x:List Int) (ts:R Int) (d:R (List Int)) (ht:∀ c,ts=.error c→c≠0) (hd:∀ c,d=.error c→c≠0):∀ c,jpe t x ts d=.error c→c≠0:=by
 intro c h;unfold jpe at h
 rcases jfT h with h | ⟨_,-,h⟩
 ·exact jqX h
 rcases jfT h with h | ⟨_,-,h⟩
 ·exact jnb h
 rcases jfT h with h | ⟨_,-,h⟩
 ·exact ht _ h
 rcases jfT h with h | ⟨_,-,h⟩
 ·exact hd _ h
 rcases jfT h with h | ⟨_,-,h⟩
 ·exact jnb h
 ·cases h
theorem jew {jaO:Nat} : ∀ {l:List Int} {is r:List Bool},jbD jaO l is=some r→r.length=is.length
 | [],is,r,h=>by cases h;rfl
 | a::l,is,r,h=>by
  unfold jbD at h
  split at h
  ·cases h
  ·split at h
   ·cases h
   ·rw [jew h,List.length_set]
def jeq (A:At) (x:List Int):List Bool:=(jbD x.length (jaQ A x.length) (List.replicate x.length false)).getD []
theorem jh0 {A:At} {x:List Int} {g:List Bool} (h:jbv (jaQ A x.length) x.length=.ok g):g=jeq A x∧jbD x.length (jaQ A x.length) (List.replicate x.length false)=some (jeq A x)∧(jeq A x).length=x.length:=by
 unfold jbv at h;unfold jeq
 split at h
 ·rename_i is hs
  cases h
  rw [hs];exact ⟨rfl,rfl,by rw [Option.getD_some,jew hs,List.length_replicate]⟩
 ·cases h
theorem jb7 {A:At} {x l:List Int} (h:ja7 A x=.ok l):∃ keep,jd9 (A.int ⟨#[107,101,101,112,100,105,109,115]⟩ 1)=.ok keep∧l=jcp keep x (jeq A x)∧jbD x.length (jaQ A x.length) (List.replicate x.length false)=some (jeq A x)∧(jeq A x).length=x.length:=by
 unfold ja7 at h;obtain ⟨keep,hk,h⟩:=jaK h;obtain ⟨g,hg,h⟩:=jaK h
 cases h
 obtain ⟨rfl,h1,h2⟩:=jh0 hg;exact ⟨keep,hk,rfl,h1,h2⟩
def jnl (t:Int):R Int:=(jal (t != 9)).bind fun _=>.ok t
def tyArg (t:Int):R Int:=(jal (t != 9)).bind fun _=>.ok 7
def jpg (t:Int):R Int:=(jal (t==1)).bind fun _=>.ok 1
theorem jnm (t:Int):∀ c,jnl t=.error c→c≠0:=fun c h=>by
 rcases jfT h with h | ⟨_,-,h⟩
 ·exact jjE h
 ·cases h
theorem jph (t:Int):∀ c,jpg t=.error c→c≠0:=fun c h=>by
 rcases jfT h with h | ⟨_,-,h⟩
 ·exact jjE h
 ·cases h
theorem jrK (n : Nod) (A : At) (i1 : ByteArray) (u : Sl) (v0 : Val) (x : List Int) (w : World) (hl : Laid w) (hni : NodeIn w n [i1] A.xs A.cs) (hck : jbn (jbN n.op) n.op [i1] n.out A.xs A.cs = 0) (hth : jcH (A.xs.find? (isA ⟨#[116, 104, 101, 110]⟩ 3)) = []) (ho : n.out.size ≤ 1048576) (hv : ValsIn w u.v [(v0, x)]) (ts : R Int) (d : R (List Int))
    (TM:jei [(v0,x)]=.ok ()→∀ wx,w.grownBy wx none→Calls Tryz.prog 68 #[jax n,.slice u.a u.n u.c] wx (jaF wx ts fun t v _=>v=.int .i64 t∧jan t=true))
    (DM:jei [(v0,x)]=.ok ()→∀ wx,w.grownBy wx none→Calls Tryz.prog 69 #[jax n,.slice u.a u.n u.c] wx (jaF wx d jbi)) :
    Calls Tryz.prog 25 #[jax n,.slice u.a u.n u.c] w (jnB n.out w (jpe v0.ty x ts d)):=by
     refine jmH n u _ w fun wx hx=>?_;have key:=jfc n A [i1] u [(v0,x)] wx (hl.more hx) (hni.more hx) (hv.more hx) (by omega) _ _ (fun hc hll hin wy hy=>TM hin wy (jaa hx hy)) (fun hc hll hin wy hy=>DM hin wy (jaa hx hy));rw [hck,hth] at key;have e:=jrJ v0 x ts d;refine key.mono fun e' w' he=>?_;rw [← e];exact jdG he fun r v _ e2=>e2
def sumR (A:At) (t:Int) (x xs:List Int):R (Int×List Int×List Int) :=
 doR (jcQ [tq t x xs] (jpe t x (jnl t) (ja7 A x))) fun _=>.ok (jaZ (jpN t) xs (plF x (jeq A x) [0]) (jbA x (jeq A x)))
theorem jrL (n:Nod) (A:At) (i1:ByteArray) (hop:n.op=⟨#[82,101,100,117,99,101,83,117,109]⟩) (u:Sl) (T0:Ten) (x xs:List Int) (w:World) (hl:Laid w) (hni:NodeIn w n [i1] A.xs A.cs) (hno:NodeOk w n A) (hck:jbn (jbN n.op) n.op [i1] n.out A.xs A.cs=0) (hth:jcH (A.xs.find? (isA ⟨#[116,104,101,110]⟩ 3))=[]) (ho:n.out.size≤1048576) (hv:TensIn w u.v [(T0,(x,xs))]) :
    Calls Tryz.prog 6 #[jax n,.slice u.a u.n u.c] w (DoQ w (sumR A T0.ty x xs)):=by
     refine jnd _ u _ w fun wx hx=>jjz _ u _ _ wx (jna (jnk _ _ _ _ (jnm _) (jkR _ _))) (fun l=>jrF _) (fun wy hy=>?_) (fun wy ty dv l hy hr hd=>?_)
     ·have hg:=jaa hx hy;refine jfg n u [(T0,(x,xs))] _ wy (hv.more hg) (by simp) fun wz s vs hz hvs h1 h2=>?_;obtain ⟨v0,rfl,e0⟩:=jjy h1 h2;have hgz:=jaa hg hz;have key:=jrK n A i1 s v0 x wz (hl.more hgz) (hni.more hgz) hck hth ho hvs (jnl v0.ty) (ja7 A x) (fun hin wq hq=>?_) (fun hin wq hq=>jes n A s v0 x wq (by rw [hop];simp) (hno.more (jaa hgz hq)) (hvs.more hq) (jbl (jrI hin).2))
      ·rw [e0] at key;exact key
      ·refine (jdv n A s [(v0,x)] wq hop (hno.more (jaa hgz hq)) (hvs.more hq) rfl (by simp) (jrI hin).1).mono fun e w' he=>jdG he fun t v e1 e2=>⟨e2,?_⟩
       obtain ⟨_,-,e1⟩:=jaK e1
       cases e1
       exact (jrI hin).1 _ (by simp [jaE])
     ·have hg:=jaa hx hy;obtain ⟨hall,hr⟩:=jo8 hr;obtain ⟨c1,-,hp,c3⟩:=jpf hr;simp only [tq,okT,List.all_cons,List.all_nil,Bool.and_true,beq_iff_eq] at hall;obtain ⟨keep,-,-,ha,hgl⟩:=jb7 hp;exact jjD n A hop u T0 x xs _ _ ty dv wy (hno.more hg) (hv.more hg) (jbl c1) (jrH hall).2 ha hgl
theorem jq2 (n:Nod) (A:At) (i1:ByteArray) (hop:n.op=⟨#[83,111,102,116,109,97,120]⟩) (u:Sl) (T0:Ten) (h1:T0.ty=1) (w:World) (hl:Laid w) (hni:NodeIn w n [i1] A.xs A.cs) (hno:NodeOk w n A) (hck:jbn (jbN n.op) n.op [i1] n.out A.xs A.cs=0) (hth:jcH (A.xs.find? (isA ⟨#[116,104,101,110]⟩ 3))=[]) (ho:n.out.size≤1048576) (hv:TensIn w u.v [(T0,([2],[0,0]))]) (hax:jbD 1 (jaQ A 1) (List.replicate 1 false)=some [true]) :
    Calls Tryz.prog 6 #[jax n,.slice u.a u.n u.c] w (DoQ w (.ok (1,[2],[1056964608,1056964608]))):=by
     have e:doR (jcQ [tq T0.ty [2] [0,0]] (jpe T0.ty [2] (jpg T0.ty) ((jbv (jaQ A 1) 1).bind (fun _=>.ok [2])))) (fun _=>.ok [1056964608,1056964608])=.ok (1,[2],[1056964608,1056964608]):=by
      rw [h1,show jbv (jaQ A 1) 1=.ok [true] from by unfold jbv;rw [hax]]
      kernel_rfl
     rw [← e]
     refine jnd _ u _ w fun wx hx=>jjz _ u _ _ wx (jna (jnk _ _ _ _ (jph _) (fun c h=>by
      rcases jfT h with h | ⟨_,-,h⟩
      ·exact jjF h
      ·cases h))) (fun l=>jrF _) (fun wy hy=>?_) (fun wy ty dv l hy hr hd=>?_)
     ·have hg:=jaa hx hy;refine jfg n u [(T0,([2],[0,0]))] _ wy (hv.more hg) (by simp) fun wz s vs hz hvs h1 h2=>?_;obtain ⟨v0,rfl,e0⟩:=jjy h1 h2;have hgz:=jaa hg hz;have key:=jrK n A i1 s v0 [2] wz (hl.more hgz) (hni.more hgz) hck hth ho hvs (jpg v0.ty) ((jbv (jaQ A 1) 1).bind (fun _=>.ok [2])) (fun hin wq hq=>?_) (fun hin wq hq=>jet n A s v0 [2] wq hop (hno.more (jaa hgz hq)) (hvs.more hq) (jbl (jrI hin).2))
      ·rw [e0] at key;exact key
      ·refine (jge n A s [(v0,[2])] wq (by rw [hop];simp) (hno.more (jaa hgz hq)) (hvs.more hq) (by simp) (by simp) (jrI hin).1).mono fun e w' he=>?_;have he2:jaF wq (jpg v0.ty) (fun t v _=>v=.int .i64 t) e w':=he
       exact jdG he2 fun t v e1 e2=>⟨e2,by
        obtain ⟨_,-,e1⟩:=jaK e1
        cases e1
        rfl⟩
     ·have hg:=jaa hx hy;exact jkQ n A hop u T0 _ ty dv wy (hno.more hg) (hv.more hg) hax
end Go.Proofs.YtekocmdfaaoggaaGreatDoor
