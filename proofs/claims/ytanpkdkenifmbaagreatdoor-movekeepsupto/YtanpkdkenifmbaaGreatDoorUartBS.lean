/- A part. -/
import Derived.Test.YtanpkdkenifmbaaGreatDoorMUart
import Derived.Test.YtanpkdkenifmbaaGreatDoorUartBR
import Derived.Test.YtanpkdkenifmbaaGreatDoorUartBO
import Derived.Test.YtanpkdkenifmbaaGreatDoorUartBC
import Derived.Test.YtanpkdkenifmbaaGreatDoorUartBQ
import Derived.Test.YtanpkdkenifmbaaGreatDoorUartBB
import Derived.Test.YtanpkdkenifmbaaGreatDoorUartBF
set_option maxHeartbeats 8000000
set_option maxRecDepth 100000
namespace Go.Proofs.YtanpkdkenifmbaaGreatDoor
open Go.RowKit
def jqv (A:At) (t0 t1:Int) (x y:List Int):R (Int×List Int) :=
 (jfX t0).bind fun _=>(jaR x).bind fun _=>(jfX t1).bind fun _=>(jaR y).bind fun _=>(jal (t1==6||t1==7)).bind fun _=>(jch A x y).bind fun d=>(jaR d).bind fun _=>.ok (t0,d)
theorem jsj (A:At) (v0 v1:Val) (x y:List Int):jbB 0 true [(v0,x),(v1,y)] ((jal ((jaE [(v0,x),(v1,y)]).getD 1 0==6||(jaE [(v0,x),(v1,y)]).getD 1 0==7)).bind (fun _=>.ok ((jaE [(v0,x),(v1,y)]).getD 0 0))) (jch A x y) []=jqv A v0.ty v1.ty x y:=by
 unfold jbB jqv;simp only [jfW,if_true,jeN,jaE,List.map_cons,List.map_nil,jdq,jjo,List.getD_cons_zero,List.getD_cons_succ]
 rfl
theorem jsk (n:Nod) (A:At) (i1 i2:ByteArray) (hop:n.op=⟨#[71,97,116,104,101,114]⟩) (u:Sl) (v0 v1:Val) (x y:List Int) (w:World) (hl:Laid w) (hni:NodeIn w n [i1,i2] A.xs A.cs) (hno:NodeOk w n A) (hck:jbE (jcu n.op) n.op [i1,i2] n.out A.xs A.cs=0) (hth:jdU (A.xs.find? (isA ⟨#[116,104,101,110]⟩ 3))=[]) (ho:n.out.size≤1048576) (hv:ValsIn w u.v [(v0,x),(v1,y)]) :
    Calls Tryz.prog 26 #[jaA n,.slice u.a u.n u.c] w (joj n.out w (jqv A v0.ty v1.ty x y)):=by
     refine jne n u _ w fun wx hx=>?_
     have key:=jfp n A [i1,i2] u [(v0,x),(v1,y)] wx (hl.more hx) (hni.more hx) (hv.more hx) (by omega) _ (jch A x y) (fun hc hll hin wy hy=>((jfs n A u [(v0,x),(v1,y)] wy hop (hno.more (jaa hx hy)) (hv.more (jaa hx hy)) rfl (by simp) (vin2 hin).1).mono fun e w' he=>jfF he fun t v e1 e2=>⟨e2,by
      obtain ⟨_,-,e1⟩:=jaF e1
      cases e1
      exact (vin2 hin).1 _ (by simp [jaE])⟩)) (fun hc hll hin wy hy=>jfz n A u v0 v1 x y wy hop (hno.more (jaa hx hy)) (hv.more (jaa hx hy)) (jaX (vin2 hin).2.1) (jaX (vin2 hin).2.2))
     rw [hck,hth] at key;have e:=jsj A v0 v1 x y;refine key.mono fun e' w' he=>?_;rw [← e];exact jfF he fun r v _ e2=>e2
theorem jpZ {A:At} {t0 t1 ty:Int} {x y l:List Int} (h:jqv A t0 t1 x y=.ok (ty,l)):ty=t0∧ja7 x=0∧ja7 y=0∧(∃ ax,ja4 (A.int ⟨#[97,120,105,115]⟩ 0) x.length=some ax∧l=x.take ax++(y++x.drop (ax+1)))∧ja7 l=0:=by
 unfold jqv at h;obtain ⟨_,-,h⟩:=jaF h;obtain ⟨_,hx,h⟩:=jaF h;obtain ⟨_,-,h⟩:=jaF h;obtain ⟨_,hy,h⟩:=jaF h;obtain ⟨_,-,h⟩:=jaF h;obtain ⟨d,hd,h⟩:=jaF h;obtain ⟨_,hc,h⟩:=jaF h
 cases h
 unfold jch at hd;obtain ⟨a,ha,hd⟩:=jaF hd
 cases hd
 unfold jcl at ha
 split at ha
 ·rename_i i hi
  cases ha
  exact ⟨rfl,jen hx,jen hy,⟨a,hi,rfl⟩,jen hc⟩
 ·cases ha
theorem jrK (A:At) (t0 t1:Int) (x y:List Int):∀ c,jqv A t0 t1 x y=.error c→c≠0:=by
 intro c h;unfold jqv at h
 have bnd:∀ {α β:Type} {r:R α} {f:α→R β},r.bind f=.error c→r=.error c∨∃ a,r=.ok a∧f a=.error c:=by
  intro α β r f h
  cases r with
  | error c'=>exact .inl (by cases h;rfl)
  | ok a=>exact .inr ⟨a,rfl,h⟩
 have must:∀ {b:Bool},jal b=.error c→c≠0:=by
  intro b h;unfold jal at h
  split at h
  ·cases h
  ·cases h;decide
 rcases bnd h with h | ⟨_,-,h⟩
 ·exact jnY h
 rcases bnd h with h | ⟨_,-,h⟩
 ·exact jjp h
 rcases bnd h with h | ⟨_,-,h⟩
 ·exact jnY h
 rcases bnd h with h | ⟨_,-,h⟩
 ·exact jjp h
 rcases bnd h with h | ⟨_,-,h⟩
 ·exact must h
 rcases bnd h with h | ⟨_,-,h⟩
 ·unfold jch at h
  rcases bnd h with h | ⟨_,-,h⟩
  ·unfold jcl at h
   split at h
   ·cases h
   ·cases h;decide
  ·cases h
 rcases bnd h with h | ⟨_,-,h⟩
 ·exact jjp h
 ·cases h
def gaR (A:At) (t0 t1:Int) (x y xs ys:List Int):R (Int×List Int×List Int) :=
 doR (jdJ [tq t0 x xs,tq t1 y ys] (jqv A t0 t1 x y)) fun _=>jdc xs (jaB (x.drop ((ja4 (A.int ⟨#[97,120,105,115]⟩ 0) x.length).getD 0+1))).toNat (x.getD ((ja4 (A.int ⟨#[97,120,105,115]⟩ 0) x.length).getD 0) 0).toNat (jaB (x.take ((ja4 (A.int ⟨#[97,120,105,115]⟩ 0) x.length).getD 0))).toNat ys
theorem jka (xs:List Int) (W dim A:Nat) (idx:List Int):∀ c,jdc xs W dim A idx=.error c→c≠0:=by
 intro c h;unfold jdc at h
 split at h
 ·cases h
 ·cases h;decide
theorem jdF {l:List Int} (h:ja7 l=0):cnt l=jaB l:=by rw [cnt,if_pos h]
theorem jdG {l m:List Int} {a b:List Int} (h:ja7 l=0) (e:l=a++(m++b)):ja7 m=0:=by
 have F:=jaX h;rw [e] at F;refine jlB (fun z hz=>F.pos z (by simp [hz])) (by have:=F.few;simp at this;omega) ?_;have h1:=F.le;rw [jaW,jaW] at h1;have pa:1≤jaB a:=prod_pos _ (fun z hz=>F.pos z (by simp [hz]));have pm:1≤jaB m:=prod_pos _ (fun z hz=>F.pos z (by simp [hz]));have pb:1≤jaB b:=prod_pos _ (fun z hz=>F.pos z (by simp [hz]));have k1:jaB m≤jaB m*jaB b:=jb9 pb (by omega);have k2:jaB m*jaB b≤jaB a*(jaB m*jaB b):=jcS pa (by omega);omega
theorem jsl (n : Nod) (A : At) (i1 i2 : ByteArray) (hop : n.op = ⟨#[71, 97, 116, 104, 101, 114]⟩) (u : Sl) (T0 T1 : Ten) (x y xs ys : List Int) (w : World) (hl : Laid w) (hni : NodeIn w n [i1, i2] A.xs A.cs) (hno : NodeOk w n A) (hck : jbE (jcu n.op) n.op [i1, i2] n.out A.xs A.cs = 0) (hth : jdU (A.xs.find? (isA ⟨#[116, 104, 101, 110]⟩ 3)) = []) (ho : n.out.size ≤ 1048576) (hv : TensIn w u.v [(T0, (x, xs)), (T1, (y, ys))]) (hzi : -9223372036854775808 ≤ A.int ⟨#[97, 120, 105, 115]⟩ 0)
    (hyl:∀ ax,ja4 (A.int ⟨#[97,120,105,115]⟩ 0) x.length=some ax→jcj (x.getD ax 0).toNat ys=true→1≤y.length) :
    Calls Tryz.prog 6 #[jaA n,.slice u.a u.n u.c] w (DoQ w (gaR A T0.ty T1.ty x y xs ys)):=by
     refine jrB _ u _ w fun wx hx=>jpO _ u _ _ wx (jrD (jrK _ _ _ _ _)) (fun l=>jka _ _ _ _ _) (fun wy hy=>?_) (fun wy ty dv l hy hr hd=>?_)
     ·have hg:=jaa hx hy;refine jhW n u [(T0,(x,xs)),(T1,(y,ys))] _ wy (hv.more hg) (by simp) fun wz z vs hz hvs h1 h2=>?_;obtain ⟨v0,v1,rfl,e0,e1⟩:=jnX h1 h2;have key:=jsk n A i1 i2 hop z v0 v1 x y wz (hl.more (jaa hg hz)) (hni.more (jaa hg hz)) (hno.more (jaa hg hz)) hck hth ho hvs;rw [e0,e1] at key;exact key
     ·have hg:=jaa hx hy;obtain ⟨hall,hr⟩:=jjY hr;obtain ⟨-,c1,c2,⟨ax,hax,hle⟩,c3⟩:=jpZ hr;simp only [tq,okT,List.all_cons,List.all_nil,Bool.and_true,Bool.and_eq_true,beq_iff_eq] at hall;have lt:=jbw hax;have F:=jaX c1;have lx:=(jnW hall.1).2;have ly:=(jnW hall.2).2;rw [hax];simp only [Option.getD_some]
      have ex:x=x.take ax++([x.getD ax 0]++x.drop (ax+1)):=by
       have e:x.getD ax 0=x[ax]:=by simp [List.getD,lt]
       rw [e];simp
      have fd:=F.pos (x.getD ax 0) (by rw [List.getD,List.getElem?_eq_getElem lt];simp);have pA:1≤jaB (x.take ax):=prod_pos _ (fun z hz=>F.pos z (List.mem_of_mem_take hz));have pW:1≤jaB (x.drop (ax+1)):=prod_pos _ (fun z hz=>F.pos z (List.mem_of_mem_drop hz));have pY:1≤jaB y:=prod_pos _ (fun z hz=>(jaX c2).pos z hz);obtain ⟨dim,hdim⟩ : ∃ d:Nat,x.getD ax 0=d:=⟨(x.getD ax 0).toNat,by omega⟩
      obtain ⟨W,hW⟩ : ∃ d:Nat,jaB (x.drop (ax+1))=d:=⟨(jaB (x.drop (ax+1))).toNat,by omega⟩
      obtain ⟨A0,hA⟩ : ∃ d:Nat,jaB (x.take ax)=d:=⟨(jaB (x.take ax)).toNat,by omega⟩
      rw [hdim,hW,hA];simp only [Int.toNat_natCast]
      have epx:jaB x=((A0*dim*W:Nat):Int):=by
       conv=>lhs;rw [ex]
       rw [jaW,jaW,hA,hW,hdim];simp [jaB,Int.mul_assoc]
      have hxl:xs.length=A0*dim*W:=by rw [epx] at lx;omega
      have fle:=F.le;rw [epx] at fle
      have hd65:dim≤65536:=by
       have:dim≤A0*dim*W:=Nat.le_trans (Nat.le_mul_of_pos_left _ (by omega)) (Nat.le_mul_of_pos_right _ (by omega));omega
      have yle:=(jaX c2).le;refine jgF n A hop u T0 T1 x xs y ys _ ty dv ax _ wy (hno.more hg) (hv.more hg) hax hzi F.few fun wz hz=>?_;have hz2:=jaa hg hz;obtain ⟨k1,k2⟩:=hv.has (T0,(x,xs)) (by simp);obtain ⟨k3,k4⟩:=hv.has (T1,(y,ys)) (by simp)
      by_cases hp:jcj dim ys=true
      ·have hy1:=hyl ax hax (by rw [hdim,Int.toNat_natCast];exact hp);have ell:l.length=ax+(y.length+(x.length - (ax+1))):=by rw [hle];simp;omega
       have epl:jaB l=((A0*ys.length*W:Nat):Int):=by
        rw [hle,jaW,jaW,hA,hW,← ly];simp [Int.mul_assoc]
       have lle:=(jaX c3).le;rw [epl] at lle;exact jiq T0.ty T1.ty T0.dv T0.tv T1.tv dv T1.dv.a T1.dv.n T1.dv.c x xs ys l ax (x.length - (ax+1)) A0 dim W (A0*ys.length*W) wz (k1.more hz2) (k2.more hz2) (k4.more hz2) (hd.more hz) (by omega) hdim hd65 (by rw [jdF (jdG c1 (a:=x.take (ax+1)) (b:=[]) (by simp)),hW]) (by omega) (by omega) (by omega) (by rw [hle,List.take_left' (by rw [List.length_take];omega),jdF (jdG c1 (a:=[]) (b:=x.drop ax) (by simp)),hA]) (by rw [jdF c3,epl]) rfl hxl (by rw [hxl];omega) (by omega) (by omega) (by omega) (by omega) (by omega) F.few
      ·have hp:jcj dim ys=false:=by simpa using hp
       exact jeH T0.ty T1.ty T0.dv T0.tv T1.tv dv T1.dv.a T1.dv.n T1.dv.c x xs ys ax A0 dim W wz (k1.more hz2) (k2.more hz2) (k4.more hz2) lt hdim hd65 (by omega) (by have:1≤jaB x:=prod_pos _ F.pos;omega) hp
end Go.Proofs.YtanpkdkenifmbaaGreatDoor
namespace Go.Proofs.YtanpkdkenifmbaaGreatDoor
open Go.RowKit
theorem joc (n:Nod) (A:At) (hop:n.op=⟨#[67,111,110,99,97,116]⟩) (u:Sl) (ps:List (Ten×Tq)) (nam0:ByteArray) (vty:Int) (dv:Sl) (l:List Int) (ax A0 N:Nat) (w:World) (hno:NodeOk w n A) (hv:TensIn w u.v ps) (hd:IsInts w dv.v l) (hll:l.length≤1000) (hzi : -9223372036854775808≤A.int ⟨#[97,120,105,115]⟩ 0) (hx:ja4 (A.int ⟨#[97,120,105,115]⟩ 0) l.length=some ax) (hA:cnt (l.take ax)=(A0:Int)) (hA5:A0≤65536) (hN:cnt l=(N:Int)) (hN5:N≤65536) (hNe:N=(jc5 (pzJ ax ps) A0).length) (hok:∀ p∈ps,RowOk ax A0 p) (hps:ps.length≤1000000) :
    Calls Tryz.prog 9 #[jaA n,.slice u.a u.n u.c,.agg #[.string nam0,.int .i64 vty,.slice dv.a dv.n dv.c]] w (EvQ w (.ok (jc5 (pzJ ax ps) A0))):=by
     have lt:=jbw hx
     have AXO:Hid (∀ wx,w.grownBy wx none→Calls Tryz.prog 23 #[jaA n,.slice dv.a dv.n dv.c] wx fun e w'=>e=.returned (.int .i64 (ax:Int))∧wx.grownBy w' none):=fun wx hg=>by
      have k:=jir n A dv l wx (hno.more hg) (hd.more hg) hll hzi;rw [hx,Option.getD_some] at k;exact k
     have JO:Hid (∀ wx,w.grownBy wx none→Calls Tryz.prog 22 #[.slice u.a u.n u.c,.slice dv.a dv.n dv.c,.int .i64 ax] wx fun e w'=>∃ v:Sl,e=.returned v.v∧jbC w' wx.heap.size v.v (jc5 (pzJ ax ps) A0)∧wx.grownBy w' none):=fun wx hg=>jjs u dv ps l ax A0 N wx (hv.more hg) (hd.more hg) (by omega) (by omega) hA hA5 hN hN5 hNe hok hps;obtain ⟨za,zn,zc⟩:=dv;obtain ⟨ua,un,uc⟩:=u;obtain ⟨op,nam,⟨ia,il,ic⟩,out,⟨ao,al,cap⟩⟩:=n;simp only at hop;subst hop;unfold jaA at AXO ⊢;simp only at AXO JO ⊢;obtain ⟨w0,hw0⟩ : ∃ w0,w0=(w.alloc (.cells #[.string ⟨#[67,111,110,99,97,116]⟩,.string nam,.slice ia il ic,.string out,.slice ao al cap] 25)).alloc (.cells #[.string nam0,.int .i64 vty,.slice za zn zc] 43):=⟨_,rfl⟩
     have g0:w.grownBy w0 none:=by rw [hw0];exact jaa (jab _ _) (jab _ _)
     have hbx:=jaJ w (.cells #[.string ⟨#[67,111,110,99,97,116]⟩,.string nam,.slice ia il ic,.string out,.slice ao al cap] 25) (.cells #[.string nam0,.int .i64 vty,.slice za zn zc] 43);rw [← hw0] at hbx;obtain ⟨n0,n1,n2,n3,n4⟩:=jai (n:=⟨⟨#[67,111,110,99,97,116]⟩,nam,⟨ia,il,ic⟩,out,⟨ao,al,cap⟩⟩) hbx.1;obtain ⟨v0,v1,v2⟩:=jaK hbx.2;have G0:=jac g0;clear hbx hv hd hno hx hA hA5 hN hN5 hNe hok hps g0 lt;rw [hw0] at n0;go_enter Tryz.func9,Tryz.ntmps9;go_wp2_with fail;rw [← hw0];rw [← hw0] at n0;clear hw0;refine wp_region_held_drew (S:=fun w'=>w0.grownBy w' none) (by kernel_rfl) (jaf (jae _)) (fun hHeld=>?_);refine tkC 0 ?_ (hv:=by intro wS hSw;go_simp;(try with_reducible rfl))
     try simp only [Act.put]
     refine tkC 1 ?_ (hv:=by intro wS hSw;go_simp;(try with_reducible rfl))
     try simp only [Act.put]
     refine tkC 2 ?_ (hv:=by intro wS hSw;have c0:=jad v2 hSw;go_simp;(try with_reducible rfl))
     try simp only [Act.put]
     refine tkC 3 ?_ (hv:=by intro wS hSw;have c0:=jad n0 hSw;have c1:=jad n1 hSw;have c2:=jad n2 hSw;have c3:=jad n3 hSw;have c4:=jad n4 hSw;go_simp;(try with_reducible rfl))
     try simp only [Act.put]
     refine tkC 4 ?_ (hv:=by intro wS hSw;go_simp;(try with_reducible rfl))
     try simp only [Act.put]
     refine tkC 5 ?_ (hv:=by intro wS hSw;have c0:=jad v2 hSw;go_simp;(try with_reducible rfl))
     try simp only [Act.put]
     refine rdA 6 fun K hK=>?_;go_simp;refine (AXO.out w0.drew (jaf G0.out)).mono ?_;rintro e w1 ⟨rfl,hg1⟩;have g1:w0.grownBy w1 none:=jaa (jaf (jae _)) hg1;refine hK.out _ _ g1 (fun hHeld=>?_);clear hK K
     try simp only [Act.put]
     refine rdA 7 fun K hK=>?_;go_simp;refine (JO.out w1 (jaa G0.out g1)).mono ?_;rintro e w3 ⟨⟨ra,rn,rc⟩,rfl,ho3,hg3⟩;have g3:w0.grownBy w3 none:=jaa g1 hg3;refine hK.out _ _ g3 (fun hHeld=>?_);clear hK K
     try simp only [Act.put]
     refine tkC 8 ?_ (hv:=by intro wS hSw;go_simp;(try with_reducible rfl))
     try simp only [Act.put]
     refine tkC 9 ?_ (hv:=by intro wS hSw;go_simp;(try with_reducible rfl))
     try simp only [Act.put]
     refine wpAnyH_done (by kernel_rfl) ?_ _;have HO:Hid (jbC w3 w.heap.size (.slice ra rn rc) (jc5 (pzJ ax ps) A0)):=⟨jaT ho3.1 (Nat.le_trans G0.out.size g1.size),ho3.2⟩
     have HG:=jac (jaa G0.out g3);clear ho3 hg3 g3 hg1 g1 n0 n1 n2 n3 n4 v0 v1 v2 hHeld;go_simp;go_wp2;go_ret2;exact jnh rfl HG.out ⟨⟨ra,rn,rc⟩,rfl,HO.out⟩
theorem jeB (x:List Int) (ax:Nat) (h:ax<x.length):jaB x=jaB (x.take ax)*(x.getD ax 0*jaB (x.drop (ax+1))):=by
 have e:x=x.take ax++([x.getD ax 0]++x.drop (ax+1)):=by
  have e:x.getD ax 0=x[ax]:=by simp [List.getD,h]
  rw [e];simp
 conv=>lhs;rw [e]
 rw [jaW,jaW];simp [jaB]
theorem jis (x:List Int) (ax:Nat) (h:ax<x.length):jaB (x.drop ax)=x.getD ax 0*jaB (x.drop (ax+1)):=jcC x ax h
theorem jlp {x y:List Int} {ax:Nat} (hl:y.length=x.length) (h:∀ i,i<x.length→i≠ax→y.getD i 0=x.getD i 0):y.take ax=x.take ax∧y.drop (ax+1)=x.drop (ax+1):=by
 have g:∀ (L:List Int) (i:Nat) (h:i<L.length),L[i]=L.getD i 0:=fun L i h=>by simp [List.getD,h]
 constructor
 ·refine List.ext_getElem (by rw [List.length_take,List.length_take,hl]) fun i h1 h2=>?_;rw [List.getElem_take,List.getElem_take,g,g];rw [List.length_take] at h2;exact h i (by omega) (by omega)
 ·refine List.ext_getElem (by rw [List.length_drop,List.length_drop,hl]) fun i h1 h2=>?_;rw [List.getElem_drop,List.getElem_drop,g,g];rw [List.length_drop] at h2;exact h _ (by omega) (by omega)
theorem jp0 (x:List Int) (ax:Nat) (z:Int):∀ i,i<x.length→i≠ax→(x.set ax z).getD i 0=x.getD i 0:=fun i _ hne=>by
 simp only [List.getD];rw [List.getElem?_set_ne (fun e=>hne e.symm)]
end Go.Proofs.YtanpkdkenifmbaaGreatDoor
namespace Go.Proofs.YtanpkdkenifmbaaGreatDoor
open Go.RowKit
theorem jod (n:Nod) (A:At) (hop:n.op=⟨#[71,97,116,104,101,114]⟩) (u:Sl) (T0 T1:Ten) (x xs y ys:List Int) (nam0:ByteArray) (ty:Int) (dv:Sl) (l:List Int) (w:World) (hno:NodeOk w n A) (hv:TensIn w u.v [(T0,(x,xs)),(T1,(y,ys))]) (hd:IsInts w dv.v l) (c1:ja7 x=0) (c2:ja7 y=0) (lx:(xs.length:Int)=jaB x) (ly:(ys.length:Int)=jaB y) (c3:ja7 l=0) (hzi : -9223372036854775808≤A.int ⟨#[97,120,105,115]⟩ 0) (ax:Nat) (hax:ja4 (A.int ⟨#[97,120,105,115]⟩ 0) x.length=some ax) (hle:l=x.take ax++(y++x.drop (ax+1))) :
    Calls Tryz.prog 9 #[jaA n,.slice u.a u.n u.c,.agg #[.string nam0,.int .i64 ty,.slice dv.a dv.n dv.c]] w fun e w'=>∃ W dim A0:Nat,EvQ w (jdc xs W dim A0 ys) e w':=by
     have lt:=jbw hax;have F:=jaX c1
     have ex:x=x.take ax++([x.getD ax 0]++x.drop (ax+1)):=by
      have e:x.getD ax 0=x[ax]:=by simp [List.getD,lt]
      rw [e];simp
     have fd:=F.pos (x.getD ax 0) (by rw [List.getD,List.getElem?_eq_getElem lt];simp);have pA:1≤jaB (x.take ax):=prod_pos _ (fun z hz=>F.pos z (List.mem_of_mem_take hz));have pW:1≤jaB (x.drop (ax+1)):=prod_pos _ (fun z hz=>F.pos z (List.mem_of_mem_drop hz));have pY:1≤jaB y:=prod_pos _ (fun z hz=>(jaX c2).pos z hz);obtain ⟨dim,hdim⟩ : ∃ d:Nat,x.getD ax 0=d:=⟨(x.getD ax 0).toNat,by omega⟩
     obtain ⟨W,hW⟩ : ∃ d:Nat,jaB (x.drop (ax+1))=d:=⟨(jaB (x.drop (ax+1))).toNat,by omega⟩
     obtain ⟨A0,hA⟩ : ∃ d:Nat,jaB (x.take ax)=d:=⟨(jaB (x.take ax)).toNat,by omega⟩
     have epx:jaB x=((A0*dim*W:Nat):Int):=by
      conv=>lhs;rw [ex]
      rw [jaW,jaW,hA,hW,hdim];simp [jaB,Int.mul_assoc]
     have hxl:xs.length=A0*dim*W:=by rw [epx] at lx;omega
     have fle:=F.le;rw [epx] at fle
     have hd65:dim≤65536:=by
      have:dim≤A0*dim*W:=Nat.le_trans (Nat.le_mul_of_pos_left _ (by omega)) (Nat.le_mul_of_pos_right _ (by omega));omega
     have yle:=(jaX c2).le;refine (jgF n A hop u T0 T1 x xs y ys nam0 ty dv ax (jdc xs W dim A0 ys) w hno hv hax hzi F.few fun wz hz=>?_).mono fun e w' h=>⟨W,dim,A0,h⟩
     have hz2:=hz;obtain ⟨k1,k2⟩:=hv.has (T0,(x,xs)) (by simp);obtain ⟨k3,k4⟩:=hv.has (T1,(y,ys)) (by simp)
     by_cases hp:jcj dim ys=true
     ·have ell:l.length=ax+(y.length+(x.length - (ax+1))):=by rw [hle];simp;omega
      have epl:jaB l=((A0*ys.length*W:Nat):Int):=by
       rw [hle,jaW,jaW,hA,hW,← ly];simp [Int.mul_assoc]
      have lle:=(jaX c3).le;rw [epl] at lle;exact jeG T0.ty T1.ty T0.dv T0.tv T1.tv dv T1.dv.a T1.dv.n T1.dv.c x xs ys l ax (x.length - (ax+1)) A0 dim W (A0*ys.length*W) wz (k1.more hz2) (k2.more hz2) (k4.more hz2) (hd.more hz) (by omega) hdim hd65 (by rw [jdF (jdG c1 (a:=x.take (ax+1)) (b:=[]) (by simp)),hW]) (by omega) (by omega) (by omega) (by rw [hle,List.take_left' (by rw [List.length_take];omega),jdF (jdG c1 (a:=[]) (b:=x.drop ax) (by simp)),hA]) (by rw [jdF c3,epl]) rfl hxl (by rw [hxl];omega) (by omega) (by omega) (by omega) (by omega) F.few
     ·have hp:jcj dim ys=false:=by simpa using hp
      exact jeH T0.ty T1.ty T0.dv T0.tv T1.tv dv T1.dv.a T1.dv.n T1.dv.c x xs ys ax A0 dim W wz (k1.more hz2) (k2.more hz2) (k4.more hz2) lt hdim hd65 (by omega) (by have:1≤jaB x:=prod_pos _ F.pos;omega) hp
theorem jlq (n:Nod) (A:At) (hop:n.op=⟨#[71,97,116,104,101,114]⟩) (u:Sl) (T0 T1:Ten) (x xs y ys:List Int) (nam0:ByteArray) (ty:Int) (dv:Sl) (l:List Int) (w:World) (hno:NodeOk w n A) (hv:TensIn w u.v [(T0,(x,xs)),(T1,(y,ys))]) (hd:IsInts w dv.v l) (c1:ja7 x=0) (c2:ja7 y=0) (lx:(xs.length:Int)=jaB x) (ly:(ys.length:Int)=jaB y) (c3:ja7 l=0) (hzi : -9223372036854775808≤A.int ⟨#[97,120,105,115]⟩ 0) (hg:jch A x y=.ok l) :
    Calls Tryz.prog 9 #[jaA n,.slice u.a u.n u.c,.agg #[.string nam0,.int .i64 ty,.slice dv.a dv.n dv.c]] w fun e w'=>∃ W dim A0:Nat,EvQ w (jdc xs W dim A0 ys) e w':=by
     unfold jch at hg;obtain ⟨ax,ha,hg⟩:=jaF hg
     cases hg
     refine jod n A hop u T0 T1 x xs y ys nam0 ty dv _ w hno hv hd c1 c2 lx ly c3 hzi ax ?_ (by simp);unfold jcl at ha
     split at ha
     ·rename_i i hi;cases ha;exact hi
     ·cases ha
end Go.Proofs.YtanpkdkenifmbaaGreatDoor
namespace Go.Proofs.YtanpkdkenifmbaaGreatDoor
open Go.RowKit
def jlr (ps:List (Ten×Tq)) (zs:List Int):Prop:=∀ z∈zs,∃ p∈ps,z∈p.2.2
theorem jp1 {p:Ten×Tq} (h:okT p=true):ja7 p.2.1=0∧(p.2.2.length:Int)=jaB p.2.1:=by
 have h0:pbE p.1.ty p.2.1 p.2.2=0:=by simpa [okT] using h
 exact jnW h0
theorem jp2 {ps:List (Ten×Tq)} {r:R (Int×List Int)} (h:∀ c,r=.error c→c≠0):∀ c,jdJ ps r=.error c→c≠0:=by
 intro c hc;unfold jdJ at hc
 split at hc
 ·exact h c hc
 ·cases hc;decide
theorem jkb {xs:List Int} {W i:Nat} {z:Int} (h:z∈jlz xs W i):z∈xs:=List.mem_of_mem_drop (List.mem_of_mem_take h)
theorem joe {ps:List (Ten×Tq)} {ax A:Nat} : jlr ps (jc5 (pzJ ax ps) A):=by
 intro z hz;unfold jc5 at hz;obtain ⟨h,-,hz⟩:=List.mem_flatMap.1 hz;unfold jcR pzJ at hz;obtain ⟨q,hq,hz⟩:=List.mem_flatMap.1 hz;obtain ⟨p,hp,rfl⟩:=List.mem_map.1 hq;exact ⟨p,hp,jkb hz⟩
theorem jof {xs idx zs:List Int} {W dim A:Nat} (h:jdc xs W dim A idx=.ok zs):∀ z∈zs,z∈xs:=by
 intro z hz;unfold jdc at h
 split at h
 ·cases h
  obtain ⟨r,hr,hz⟩:=List.mem_flatten.1 hz;unfold jf9 at hr;obtain ⟨h,-,hr⟩:=List.mem_flatMap.1 hr;obtain ⟨p,-,rfl⟩:=List.mem_map.1 hr;exact jkb hz
 ·cases h
theorem likeM {ax:Nat} {d y:List Int} (h:jgU d ax y=true):∀ i,i<y.length→i≠ax→y.getD i 0=d.getD i 0:=by
 intro i hi hne;have:=List.all_eq_true.1 h i (by simpa using hi);simp only [Bool.or_eq_true,beq_iff_eq] at this
 rcases this with h | h
 ·exact absurd h hne
 ·exact h
theorem jkc {ax:Nat} : ∀ {ys:List (List Int)} {d l:List Int},ax<d.length→jdj ax ys d=.ok l→l.length=d.length∧(∀ i,i<d.length→i≠ax→l.getD i 0=d.getD i 0)∧l.getD ax 0=d.getD ax 0+(ys.map (·.getD ax 0)).sum∧∀ y∈ys,y.length=d.length∧∀ i,i<d.length→i≠ax→y.getD i 0=d.getD i 0
 | [],d,l,_,h=>by
  cases h
  exact ⟨rfl,fun _ _ _=>rfl,by simp,fun y hy=>by cases hy⟩
 | y::ys,d,l,hl,h=>by
  obtain ⟨_,h1,h⟩:=jaF (show (jal (decide (y.length=d.length))).bind (fun _=>(jal (jgU d ax y)).bind fun _=>jdj ax ys (d.set ax (d.getD ax 0+y.getD ax 0)))=.ok l from h);obtain ⟨_,h2,h⟩:=jaF h;have e1:y.length=d.length:=by simpa using jhf h1
  have e2:=likeM (jhf h2);have hs:(d.set ax (d.getD ax 0+y.getD ax 0)).length=d.length:=by rw [List.length_set]
  obtain ⟨k1,k2,k3,k4⟩:=jkc (by rw [hs];exact hl) h;have sl:=jp0 d ax (d.getD ax 0+y.getD ax 0);refine ⟨by omega,fun i hi hne=>by rw [k2 i (by omega) hne,sl i hi hne],?_,fun z hz=>?_⟩
  ·rw [k3,List.map_cons,List.sum_cons];have:(d.set ax (d.getD ax 0+y.getD ax 0)).getD ax 0=d.getD ax 0+y.getD ax 0:=by simp [List.getD,hl]
   omega
  ·rcases List.mem_cons.1 hz with rfl | hz
   ·exact ⟨e1,fun i hi hne=>e2 i (by omega) hne⟩
   ·obtain ⟨q1,q2⟩:=k4 z hz;exact ⟨by omega,fun i hi hne=>by rw [q2 i (by omega) hne,sl i hi hne]⟩
theorem jit {A0 i:Nat} (hi:i<A0):∀ (pz:List (List Int×Nat)),(∀ p∈pz,p.1.length=A0*p.2)→(jcR pz i).length=(pz.map (·.2)).sum
 | [],_=>rfl
 | p::pz,h=>by
  have hr:(jlz p.1 p.2 i).length=p.2:=jhn (by
   rw [h p (List.mem_cons_self ..),show i*p.2+p.2=(i+1)*p.2 from by rw [Nat.add_mul];omega];exact Nat.mul_le_mul_right _ hi)
  have ih:=jit hi pz (fun q hq=>h q (List.mem_cons_of_mem _ hq));unfold jcR at ih ⊢;rw [List.flatMap_cons,List.length_append,hr,ih,List.map_cons,List.sum_cons]
theorem jog {A0:Nat} {pz:List (List Int×Nat)} (h:∀ p∈pz,p.1.length=A0*p.2):(jc5 pz A0).length=A0*(pz.map (·.2)).sum:=by
 unfold jc5;exact jea _ _ _ fun i hi=>jit hi pz h
theorem jp3 {A:At} {ps:List (Ten×Tq)} {x l:List Int} {ys:List (List Int)} (hx:ps.map (·.2.1)=x::ys) (hok:∀ p∈ps,ja7 p.2.1=0∧(p.2.2.length:Int)=jaB p.2.1) (cl:ja7 l=0) (h:jcd A x ys=.ok l):∃ ax A0 N:Nat,ja4 (A.int ⟨#[97,120,105,115]⟩ 0) l.length=some ax∧l.length≤1000∧cnt (l.take ax)=(A0:Int)∧A0≤65536∧cnt l=(N:Int)∧N≤65536∧N=(jc5 (pzJ ax ps) A0).length∧∀ p∈ps,RowOk ax A0 p:=by
 obtain ⟨ax,ha,h⟩:=jaF (show (jcl (A.int ⟨#[97,120,105,115]⟩ 0) x.length).bind (fun ax=>jdj ax ys x)=.ok l from h)
 have hi:ja4 (A.int ⟨#[97,120,105,115]⟩ 0) x.length=some ax:=by
  unfold jcl at ha
  split at ha
  ·rename_i i hi;cases ha;exact hi
  ·cases ha
 have lt:=jbw hi;obtain ⟨k1,k2,k3,k4⟩:=jkc lt h;have Fl:=jaX cl;have pA:1≤jaB (l.take ax):=prod_pos _ (jeP Fl.pos ax);have pR:1≤jaB (l.drop (ax+1)):=prod_pos _ (jcB Fl.pos (ax+1));obtain ⟨A0,hA0⟩ : ∃ a:Nat,jaB (l.take ax)=a:=⟨(jaB (l.take ax)).toNat,by omega⟩
 obtain ⟨R0,hR0⟩ : ∃ a:Nat,jaB (l.drop (ax+1))=a:=⟨(jaB (l.drop (ax+1))).toNat,by omega⟩
 have lal:∀ p∈ps,p.2.1.length=l.length∧∀ i,i<l.length→i≠ax→p.2.1.getD i 0=l.getD i 0:=by
  intro p hp;have hm:p.2.1∈x::ys:=by rw [← hx];exact List.mem_map.2 ⟨p,hp,rfl⟩
  rcases List.mem_cons.1 hm with e | hm
  ·rw [e];exact ⟨k1.symm,fun i hi hne=>(k2 i (by omega) hne).symm⟩
  ·obtain ⟨q1,q2⟩:=k4 _ hm;exact ⟨by omega,fun i hi hne=>by rw [q2 i (by omega) hne,k2 i (by omega) hne]⟩
 have wd:∀ p∈ps,∃ d:Nat,p.2.1.getD ax 0=(d:Int)∧1≤d∧wdJ ax p=d*R0∧cnt (p.2.1.drop ax)=((d*R0:Nat):Int)∧p.2.2.length=A0*(d*R0):=by
  intro p hp;obtain ⟨c,hl⟩:=hok p hp;obtain ⟨q1,q2⟩:=lal p hp;obtain ⟨t1,t2⟩:=jlp q1 q2;have F:=jaX c;have hd:=F.at ax (by omega);obtain ⟨d,hd'⟩ : ∃ d:Nat,p.2.1.getD ax 0=d:=⟨(p.2.1.getD ax 0).toNat,by omega⟩
  have cY:ja7 (p.2.1.drop ax)=0:=jdG c (a:=p.2.1.take ax) (m:=p.2.1.drop ax) (b:=[]) (by simp)
  have e1:cnt (p.2.1.drop ax)=((d*R0:Nat):Int):=by
   rw [cnt,if_pos cY,jis _ ax (by omega),t2,hR0,hd',Int.natCast_mul]
  refine ⟨d,hd',by omega,by unfold wdJ;rw [e1,Int.toNat_natCast],e1,?_⟩;rw [jeB _ ax (by omega),t1,t2,hA0,hR0,hd',← Int.natCast_mul,← Int.natCast_mul] at hl;omega
 have A5:A0≤65536:=by
  have h1:=Fl.le;have h3:=Fl.at ax (by omega);rw [jeB l ax (by omega),hA0,hR0] at h1;have h4:=Int.mul_le_mul h3 (show (1:Int)≤R0 by omega) (by omega) (by omega);have h5:=jb9 (a:=l.getD ax 0*(R0:Int)) (b:=(A0:Int)) (by omega) (by omega);omega
 have few:∀ p∈ps,p.2.2.length≤65536:=fun p hp=>by
  obtain ⟨c,hl⟩:=hok p hp;have:=(jaX c).le;omega
 have sum:((pzJ ax ps).map (·.2)).sum=((ps.map (·.2.1)).map (fun y=>(y.getD ax 0).toNat)).sum*R0:=by
  unfold pzJ;rw [List.map_map,List.map_map]
  have key:∀ qs:List (Ten×Tq),(∀ p∈qs,p∈ps)→(qs.map ((·.2) ∘ fun p=>(p.2.2,wdJ ax p))).sum=(qs.map ((fun y=>(y.getD ax 0).toNat) ∘ (·.2.1))).sum*R0:=by
   intro qs
   induction qs with
   | nil=>intro _;simp
   | cons p qs ih =>
    intro hq;obtain ⟨d,e1,-,e2,-⟩:=wd p (hq p (List.mem_cons_self ..));rw [List.map_cons,List.map_cons,List.sum_cons,List.sum_cons,ih (fun q hm=>hq q (List.mem_cons_of_mem _ hm)),Nat.add_mul]
    congr 1
    show wdJ ax p=(p.2.1.getD ax 0).toNat*R0;rw [e1,e2,Int.toNat_natCast]
  exact key ps fun _ h=>h
 have tot:((((ps.map (·.2.1)).map (fun y=>(y.getD ax 0).toNat)).sum:Nat):Int)=l.getD ax 0:=by
  have pos:∀ y∈x::ys,1≤y.getD ax 0:=by
   intro y hy;rw [← hx] at hy;obtain ⟨p,hp,rfl⟩:=List.mem_map.1 hy;exact (jaX (hok p hp).1).at ax (by have:=(lal p hp).1;omega)
  have key:∀ zs:List (List Int),(∀ y∈zs,1≤y.getD ax 0)→(((zs.map (fun y=>(y.getD ax 0).toNat)).sum:Nat):Int)=(zs.map (·.getD ax 0)).sum:=by
   intro zs
   induction zs with
   | nil=>intro _;rfl
   | cons y zs ih =>
    intro hz;have h1:=hz y (List.mem_cons_self ..);have h2:=ih (fun q hm=>hz q (List.mem_cons_of_mem _ hm));rw [List.map_cons,List.map_cons,List.sum_cons,List.sum_cons];omega
  rw [hx,key _ pos,List.map_cons,List.sum_cons,k3]
 have hN:cnt l=((A0*(((pzJ ax ps).map (·.2)).sum):Nat):Int):=by
  rw [cnt,if_pos cl,jeB l ax (by omega),hA0,hR0,← tot,sum];simp only [Int.natCast_mul]
 have jl:(jc5 (pzJ ax ps) A0).length=A0*((pzJ ax ps).map (·.2)).sum:=jog fun q hq=>by
  unfold pzJ at hq;obtain ⟨p,hp,rfl⟩:=List.mem_map.1 hq;obtain ⟨d,-,-,e2,-,e4⟩:=wd p hp;show p.2.2.length=A0*wdJ ax p;rw [e2,e4]
 refine ⟨ax,A0,_,by rw [k1];exact hi,by have:=Fl.few;omega,?_,A5,hN,?_,jl.symm,fun p hp=>?_⟩
 ·rw [cnt,if_pos (jdG cl (a:=[]) (m:=l.take ax) (b:=l.drop ax) (by simp)),hA0]
 ·have h1:=Fl.le;rw [cnt,if_pos cl] at hN;omega
 ·obtain ⟨d,e0,e1,e2,e3,e4⟩:=wd p hp;have q1:=(lal p hp).1;refine ⟨by omega,by omega,?_,by rw [e2,e4],few p hp⟩;rw [e3];have:1*1≤d*R0:=Nat.mul_le_mul e1 (by omega);omega
theorem jsm:∀ r∈jd6,(r.1∈([[82,101,115,104,97,112,101],[83,113,117,101,101,122,101],[85,110,115,113,117,101,101,122,101],[70,108,97,116,116,101,110],[69,120,112,97,110,100],[84,114,97,110,115,112,111,115,101],[83,108,105,99,101]]:List (List UInt8))→r.2.1=1∧r.2.2.1=1)∧(r.1=[71,97,116,104,101,114]→r.2.1=2∧r.2.2.1=2):=by decide +kernel
def tvM (p:Ten×Tq):Val×List Int:=(jdP p,p.2.1)
theorem jp4 (ps:List (Ten×Tq)):jdr (ps.map tvM)=ps.map (·.2.1):=by
 unfold jdr;rw [List.map_map]
 rfl
theorem jp5 (n:Nod) (hop:n.op.toList∉([[67,111,110,115,116,97,110,116],[82,101,115,104,97,112,101],[83,113,117,101,101,122,101],[85,110,115,113,117,101,101,122,101],[70,108,97,116,116,101,110],[69,120,112,97,110,100],[84,114,97,110,115,112,111,115,101],[83,108,105,99,101],[80,97,100],[67,111,110,99,97,116],[71,97,116,104,101,114]]:List (List UInt8))) (u:Sl) (nam0:ByteArray) (ty:Int) (dv:Sl) (w:World) :
    Calls Tryz.prog 9 #[jaA n,.slice u.a u.n u.c,.agg #[.string nam0,.int .i64 ty,.slice dv.a dv.n dv.c]] w (EvQ w (.error 5)):=by
     obtain ⟨op,nam,⟨ia,il,ic⟩,out,⟨ao,al,cap⟩⟩:=n;obtain ⟨ua,un,uc⟩:=u;obtain ⟨da,dn,dc⟩:=dv;unfold jaA;simp only [List.mem_cons,List.not_mem_nil,or_false,not_or] at hop;obtain ⟨m0,m1,m2,m3,m4,m5,m6,m7,m8,m9,m10⟩:=hop;have d0:(op.toList==[67,111,110,115,116,97,110,116])=false:=by simpa using m0
     have d1:(op.toList==[82,101,115,104,97,112,101])=false:=by simpa using m1
     have d2:(op.toList==[83,113,117,101,101,122,101])=false:=by simpa using m2
     have d3:(op.toList==[85,110,115,113,117,101,101,122,101])=false:=by simpa using m3
     have d4:(op.toList==[70,108,97,116,116,101,110])=false:=by simpa using m4
     have d5:(op.toList==[69,120,112,97,110,100])=false:=by simpa using m5
     have d6:(op.toList==[84,114,97,110,115,112,111,115,101])=false:=by simpa using m6
     have d7:(op.toList==[83,108,105,99,101])=false:=by simpa using m7
     have d8:(op.toList==[80,97,100])=false:=by simpa using m8
     have d9:(op.toList==[67,111,110,99,97,116])=false:=by simpa using m9
     have d10:(op.toList==[71,97,116,104,101,114])=false:=by simpa using m10
     clear m0 m1 m2 m3 m4 m5 m6 m7 m8 m9 m10;go_enter Tryz.func9,Tryz.ntmps9;go_wp2;go_ret2;exact ⟨jaa (jab _ _) (jab _ _),rfl⟩
theorem jls (n:Nod) (ins:List ByteArray) (A:At) (u:Sl) (ps:List (Ten×Tq)) (nam0:ByteArray) (ty:Int) (dv:Sl) (l:List Int) (w:World) (hn:NodeAll w n ins A) (hv:TensIn w u.v ps) (hp1:ps.length≤1000) (hd:IsInts w dv.v l) (hok:ps.all okT=true) (ok:OutOk n ins A (ps.map tvM) (ty,l)) (hc0:n.op≠⟨#[67,111,110,115,116,97,110,116]⟩) (hc8:n.op≠⟨#[80,97,100]⟩) :
    Calls Tryz.prog 9 #[jaA n,.slice u.a u.n u.c,.agg #[.string nam0,.int .i64 ty,.slice dv.a dv.n dv.c]] w (EvU w (jlr ps)):=by
     rw [List.all_eq_true] at hok;have hok:∀ p∈ps,ja7 p.2.1=0∧(p.2.2.length:Int)=jaB p.2.1:=fun p hp=>jp1 (hok p hp);obtain ⟨R0,hR,e1,e2,e3⟩:=jfC ok.chk;have e4:=ok.len;rw [List.length_map] at e4;obtain ⟨a1,a2⟩:=jsm R0 hR;rw [e1] at a1 a2;have hdm:=ok.dim;have hc:=ok.cnt;rw [jp4] at hdm;simp only at hdm hc;have hzi:=(hn.ok.int ⟨#[97,120,105,115]⟩ 0 (by omega)).1
     have one:n.op.toList∈([[82,101,115,104,97,112,101],[83,113,117,101,101,122,101],[85,110,115,113,117,101,101,122,101],[70,108,97,116,116,101,110],[69,120,112,97,110,100],[84,114,97,110,115,112,111,115,101],[83,108,105,99,101]]:List (List UInt8))→∃ T0 x xs,ps=[(T0,(x,xs))]:=fun hm=>by
      obtain ⟨q1,q2⟩:=a1 hm
      match ps,(show ps.length=1 by omega) with
      | [(T0,(x,xs))],_=>exact ⟨T0,x,xs,rfl⟩
     have k1:∀ {T0:Ten} {x xs:List Int} {e:Ending} {w':World},ps=[(T0,(x,xs))]→EvU w (fun zs=>∀ z∈zs,z∈xs) e w'→EvU w (jlr ps) e w':=by
      rintro T0 x xs e w' rfl ⟨hg,u,c,rfl,hq⟩;refine ⟨hg,u,c,rfl,fun h0=>?_⟩;obtain ⟨zs,h1,h2⟩:=hq h0;exact ⟨zs,fun z hz=>⟨_,List.mem_cons_self ..,h1 z hz⟩,h2⟩
     by_cases h1:n.op∈([⟨#[82,101,115,104,97,112,101]⟩,⟨#[83,113,117,101,101,122,101]⟩,⟨#[85,110,115,113,117,101,101,122,101]⟩,⟨#[70,108,97,116,116,101,110]⟩]:List ByteArray)
     ·have hm : n.op.toList ∈ ([[82, 101, 115, 104, 97, 112, 101], [83, 113, 117, 101, 101, 122, 101], [85, 110, 115, 113, 117, 101, 101, 122, 101], [70, 108, 97, 116, 116, 101, 110], [69, 120, 112, 97, 110, 100], [84, 114, 97, 110, 115, 112, 111, 115, 101], [83, 108, 105, 99, 101]] : List (List UInt8)) := by
        simp only [List.mem_cons,List.not_mem_nil,or_false] at h1
        rcases h1 with h | h | h | h <;> (rw [h,jaj];decide)
      obtain ⟨T0,x,xs,hps⟩:=one hm;rw [hps] at hv;exact (jhk n h1 u T0 x xs nam0 ty dv l w hv hd).mono fun e w' h=>k1 hps h
     by_cases h2:n.op=⟨#[69,120,112,97,110,100]⟩
     ·obtain ⟨T0,x,xs,hps⟩:=one (by rw [h2,jaj];decide);rw [hps] at hv;exact (jim n (by rw [h2];simp) u T0 x xs nam0 ty dv l w hv hd).mono fun e w' h=>k1 hps h
     by_cases h3:n.op=⟨#[84,114,97,110,115,112,111,115,101]⟩
     ·obtain ⟨T0,x,xs,rfl⟩:=one (by rw [h3,jaj];decide);rw [show (grp n.op).2=8 from by rw [h3];kernel_rfl] at hdm;obtain ⟨hP,hle⟩:=jhm (show jaY A x=.ok l from hdm);obtain ⟨c1,lx⟩:=hok (T0,(x,xs)) (by simp);exact (jjn n A h3 u T0 x xs nam0 ty dv l w hn.ok hv hd (by rw [hle,Vw.pickL_len,hP.len]) c1 hP (jrE (jaX c1) hP lx)).mono fun e w' h=>k1 rfl (jik h (fun c hc=>by cases hc) fun zs hz=>by cases hz;exact jnP)
     by_cases h4:n.op=⟨#[83,108,105,99,101]⟩
     ·obtain ⟨T0,x,xs,rfl⟩:=one (by rw [h4,jaj];decide);rw [show (grp n.op).2=10 from by rw [h4];kernel_rfl] at hdm;obtain ⟨c1,lx⟩:=hok (T0,(x,xs)) (by simp);exact (jjr n A h4 u T0 x xs nam0 ty dv l w hn.ok hv hd c1 lx hdm).mono fun e w' h=>k1 rfl (jik h (fun c hc=>by cases hc) fun zs hz=>by cases hz;exact jnP)
     by_cases h5:n.op=⟨#[67,111,110,99,97,116]⟩
     ·rw [show (grp n.op).2=9 from by rw [h5];kernel_rfl] at hdm
      cases hps:ps with
      | nil =>
       rw [hps] at hdm;obtain ⟨ax,ha,-⟩:=jaF (show (jcl (A.int ⟨#[97,120,105,115]⟩ 0) 0).bind (fun ax=>jdj ax [] [])=.ok l from hdm);unfold jcl at ha
       split at ha
       ·rename_i i hi;exact absurd (jbw hi) (by omega)
       ·cases ha
      | cons p qs =>
       rw [← hps];obtain ⟨ax,A0,N,x1,x2,x3,x4,x5,x6,x7,x8⟩:=jp3 (A:=A) (ps:=ps) (x:=p.2.1) (ys:=qs.map (·.2.1)) (by rw [hps];rfl) hok hc (by rw [hps] at hdm;exact hdm);exact (joc n A h5 u ps nam0 ty dv l ax A0 N w hn.ok hv hd x2 hzi x1 x3 x4 x5 x6 x7 x8 (by omega)).mono fun e w' h=>jik h (fun c hc=>by cases hc) fun zs hz=>by cases hz;exact joe
     by_cases h6:n.op=⟨#[71,97,116,104,101,114]⟩
     ·obtain ⟨q1,q2⟩:=a2 (by rw [h6,jaj]);rw [show (grp n.op).2=11 from by rw [h6];kernel_rfl] at hdm
      match ps,(show ps.length=2 by omega) with
      | [(T0,(x,xs)),(T1,(y,ys))],_ =>
       obtain ⟨c1,lx⟩:=hok (T0,(x,xs)) (by simp);obtain ⟨c2,ly⟩:=hok (T1,(y,ys)) (by simp);exact (jlq n A h6 u T0 T1 x xs y ys nam0 ty dv l w hn.ok hv hd c1 c2 lx ly hc hzi hdm).mono fun e w' ⟨_,_,_,h⟩=>jik h (jka _ _ _ _ _) fun zs hz=>fun z hzm=>⟨_,List.mem_cons_self ..,jof hz z hzm⟩
     refine (jp5 n ?_ u nam0 ty dv w).mono fun e w' h=>jik h (fun c hc=>by cases hc;decide) fun zs hz=>by cases hz
     intro hm;have nb:∀ z:ByteArray,n.op≠z→n.op.toList≠z.data.toList:=fun z hz e=>hz (ByteArray.ext (Array.ext' (by rw [← e,jaj])));simp only [List.mem_cons,List.not_mem_nil,or_false,not_or] at hm h1;obtain ⟨r1,r2,r3,r4⟩:=h1
     rcases hm with e | e | e | e | e | e | e | e | e | e | e
     ·exact nb _ hc0 e
     ·exact nb _ r1 e
     ·exact nb _ r2 e
     ·exact nb _ r3 e
     ·exact nb _ r4 e
     ·exact nb _ h2 e
     ·exact nb _ h3 e
     ·exact nb _ h4 e
     ·exact nb _ hc8 e
     ·exact nb _ h5 e
     ·exact nb _ h6 e
theorem jiu:∀ {vs us:List (Val×List Int)},vs.map (·.1.ty)=us.map (·.1.ty)→vs.map (·.2)=us.map (·.2)→jeN vs=jeN us
 | [],[],_,_=>rfl
 | p::l,q::m,h1,h2=>by
  simp only [List.map_cons,List.cons.injEq] at h1 h2;simp only [jeN];rw [h1.1,h2.1,jiu h1.2 h2.2]
 | [],q::m,h1,_=>by simp at h1
 | p::l,[],h1,_=>by simp at h1
theorem joh {n:Nod} {ins:List ByteArray} {A:At} {vs us:List (Val×List Int)} (h1:vs.map (·.1.ty)=us.map (·.1.ty)) (h2:vs.map (·.2)=us.map (·.2)):jly n ins A vs=jly n ins A us:=by
 have hl:vs.length=us.length:=by simpa using congrArg List.length h1
 have ht:jaE vs=jaE us:=h1;have hd:jdr vs=jdr us:=h2;unfold jly jbB;rw [hl,ht,hd,jiu h1 h2]
theorem jp6 (n:Nod) (ins:List ByteArray) (A:At) (u:Sl) (ps:List (Ten×Tq)) (w:World) (hl:Laid w) (hn:NodeAll w n ins A) (hv:TensIn w u.v ps) (hp1:ps.length≤1000) (hc0:n.op≠⟨#[67,111,110,115,116,97,110,116]⟩) (hc8:n.op≠⟨#[80,97,100]⟩) :
    Calls Tryz.prog 6 #[jaA n,.slice u.a u.n u.c] w (DoM w (jdJ ps (jly n ins A (ps.map tvM))) (jlr ps)):=by
     refine jrC n u _ (jlr ps) w fun wx hx=>jpP n u _ (jlr ps) wx (jp2 fun c h=>jpz h) (fun wy hy=>?_) (fun wy ty dv l hy hr hd=>?_)
     ·refine jhW n u ps _ wy (hv.more (jaa hx hy)) (by omega) fun wz s vs hz hvs h1 h2=>?_;have key:=jsd n ins A s vs wz (hl.more (jaa (jaa hx hy) hz)) (hn.more (jaa (jaa hx hy) hz)) hvs;rw [joh (us:=ps.map tvM) (by rw [h1,List.map_map];rfl) (by rw [h2,List.map_map];rfl)] at key;exact key
     ·obtain ⟨hok,hr⟩:=jjY hr;exact jls n ins A u ps n.out ty dv l wy (hn.more (jaa hx hy)) (hv.more (jaa hx hy)) hp1 hd hok (jrv hr) hc0 hc8
end Go.Proofs.YtanpkdkenifmbaaGreatDoor
namespace Go.Proofs.YtanpkdkenifmbaaGreatDoor
open Go.RowKit
theorem five (w:World) (o0 o1 o2 o3 o4:Obj):∀ W,W=((((w.alloc o0).alloc o1).alloc o2).alloc o3).alloc o4 →
    W.heap[w.heap.size]?=some o0∧W.heap[w.heap.size+1]?=some o1∧W.heap[w.heap.size+1+1]?=some o2∧W.heap[w.heap.size+1+1+1]?=some o3∧W.heap[w.heap.size+1+1+1+1]?=some o4∧w.grownBy W none:=by
     rintro W rfl;obtain ⟨a0,z0⟩:=jcQ o0 (x:=w) rfl;obtain ⟨a1,z1⟩:=jcQ o1 z0;obtain ⟨a2,z2⟩:=jcQ o2 z1;obtain ⟨a3,z3⟩:=jcQ o3 z2;obtain ⟨a4,z4⟩:=jcQ o4 z3;refine ⟨?_,?_,?_,?_,a4,?_⟩
     ·exact jb8 _ (jb8 _ (jb8 _ (jb8 _ a0)))
     ·exact jb8 _ (jb8 _ (jb8 _ a1))
     ·exact jb8 _ (jb8 _ a2)
     ·exact jb8 _ a3
     ·exact jaa (jaa (jaa (jaa (jab _ _) (jab _ _)) (jab _ _)) (jab _ _)) (jab _ _)
theorem jrL:gaR ⟨⟨#[71,97,116,104,101,114]⟩,[],[]⟩ 6 7 [3] [3] [10,20,30] [2,0,-1]=.ok (6,[3],[30,10,30]):=by kernel_rfl
theorem jrM:gaR ⟨⟨#[71,97,116,104,101,114]⟩,[],[]⟩ 6 7 [3] [] [10,20,30] [3]=.error 8:=by kernel_rfl
theorem jlt (w:World) (hl:Laid w):Calls Tryz.prog 5 #[] w fun e w'=>e=.returned (.bool true)∧w.grownBy w' none:=by
 have HL:=jac hl;clear hl;obtain ⟨W,hW⟩ : ∃ W,W=((((w.alloc (.cells #[.string ⟨#[120]⟩,.string ⟨#[121]⟩] 9)).alloc (.cells #[.string ⟨#[71,97,116,104,101,114]⟩,.string ⟨#[]⟩,.slice (some ⟨w.heap.size,0,none⟩) 2 2,.string ⟨#[122]⟩,.slice none 0 0] 25)).alloc (.cells #[.int .i64 3] 3)).alloc (.cells #[.int .i64 10,.int .i64 20,.int .i64 30] 2)).alloc (.cells #[.int .i64 6,.slice (some ⟨w.heap.size+1+1,0,none⟩) 1 1,.slice (some ⟨w.heap.size+1+1+1,0,none⟩) 3 3] 32):=⟨_,rfl⟩
 obtain ⟨b0,b1,b2,b3,b4,gW⟩:=five w _ _ _ _ _ W hW;have GW:=jac gW;have BX:Hid (∀ wx,W.grownBy wx none→wx.heap[w.heap.size]?=some (.cells #[.string ⟨#[120]⟩,.string ⟨#[121]⟩] 9 (0,0))∧wx.heap[w.heap.size+1]?=some (.cells #[.string ⟨#[71,97,116,104,101,114]⟩,.string ⟨#[]⟩,.slice (some ⟨w.heap.size,0,none⟩) 2 2,.string ⟨#[122]⟩,.slice none 0 0] 25 (0,0))∧wx.heap[w.heap.size+1+1]?=some (.cells #[.int .i64 3] 3 (0,0))∧wx.heap[w.heap.size+1+1+1]?=some (.cells #[.int .i64 10,.int .i64 20,.int .i64 30] 2 (0,0))∧wx.heap[w.heap.size+1+1+1+1]?=some (.cells #[.int .i64 6,.slice (some ⟨w.heap.size+1+1,0,none⟩) 1 1,.slice (some ⟨w.heap.size+1+1+1,0,none⟩) 3 3] 32 (0,0))):=fun wx hx=>⟨jag b0 hx,jag b1 hx,jag b2 hx,jag b3 hx,jag b4 hx⟩
 have ZW:W.heap.size=w.heap.size+1+1+1+1+1:=by rw [hW];simp
 obtain ⟨n0,n1,n2,n3,n4⟩:=jai (n:=⟨⟨#[71,97,116,104,101,114]⟩,⟨#[]⟩,⟨some ⟨w.heap.size,0,none⟩,2,2⟩,⟨#[122]⟩,⟨none,0,0⟩⟩) b1;obtain ⟨x0,x1,x2⟩:=jaK b4;rw [hW] at n0 n1 n2 n3 n4 x0 x1 x2;obtain ⟨V,hV⟩ : ∃ V,V=((W.alloc (.cells #[.int .i64 3] 3)).alloc (.cells #[.int .i64 2,.int .i64 0,.int .i64 (-1)] 2)).alloc (.cells #[.int .i64 6,.slice (some ⟨w.heap.size+1+1,0,none⟩) 1 1,.slice (some ⟨w.heap.size+1+1+1,0,none⟩) 3 3,.int .i64 7,.slice (some ⟨w.heap.size+1+1+1+1+1,0,none⟩) 1 1,.slice (some ⟨w.heap.size+1+1+1+1+1+1,0,none⟩) 3 3] 32):=⟨_,rfl⟩
 obtain ⟨c0,c1,c2⟩:=jdY W (.cells #[.int .i64 3] 3) (.cells #[.int .i64 2,.int .i64 0,.int .i64 (-1)] 2) (.cells #[.int .i64 6,.slice (some ⟨w.heap.size+1+1,0,none⟩) 1 1,.slice (some ⟨w.heap.size+1+1+1,0,none⟩) 3 3,.int .i64 7,.slice (some ⟨w.heap.size+1+1+1+1+1,0,none⟩) 1 1,.slice (some ⟨w.heap.size+1+1+1+1+1+1,0,none⟩) 3 3] 32);rw [← hV] at c0 c1 c2;rw [ZW] at c0 c1 c2;have gV:W.grownBy V none:=by rw [hV];exact jaa (jaa (jab _ _) (jab _ _)) (jab _ _)
 have GV:=jac (jaa gW gV);have GV0:=jac gV;obtain ⟨p0,p1,p2,p3,p4⟩:=BX.out V gV;have E1:=jac (jsl ⟨⟨#[71,97,116,104,101,114]⟩,⟨#[]⟩,⟨some ⟨w.heap.size,0,none⟩,2,2⟩,⟨#[122]⟩,jqs⟩ ⟨⟨#[71,97,116,104,101,114]⟩,[],[]⟩ ⟨#[120]⟩ ⟨#[121]⟩ rfl ⟨some ⟨w.heap.size+1+1+1+1+1+1+1,0,none⟩,2,2⟩ ⟨6,⟨some ⟨w.heap.size+1+1,0,none⟩,1,1⟩,⟨some ⟨w.heap.size+1+1+1,0,none⟩,3,3⟩⟩ ⟨7,⟨some ⟨w.heap.size+1+1+1+1+1,0,none⟩,1,1⟩,⟨some ⟨w.heap.size+1+1+1+1+1+1,0,none⟩,3,3⟩⟩ [3] [3] [10,20,30] [2,0,-1] V (HL.out.more GV.out) (jnU V _ _ _ _ (jn6 p0)) (jnV V _ _ _) (by kernel_rfl) (by kernel_rfl) (by show 1≤1048576;omega) (jj5 _ _ c2 (jcm (zs:=[3]) p2 (by simp) (by simp)) (jcm (zs:=[10,20,30]) p3 (by simp) (by simp)) (jcm (zs:=[3]) c0 (by simp) (by simp)) (jcm (zs:=[2,0,-1]) c1 (by simp) (by simp))) (by decide) (fun _ _ _=>by simp));rw [show gaR ⟨⟨#[71,97,116,104,101,114]⟩,[],[]⟩ (Ten.ty ⟨6,⟨some ⟨w.heap.size+1+1,0,none⟩,1,1⟩,⟨some ⟨w.heap.size+1+1+1,0,none⟩,3,3⟩⟩) (Ten.ty ⟨7,⟨some ⟨w.heap.size+1+1+1+1+1,0,none⟩,1,1⟩,⟨some ⟨w.heap.size+1+1+1+1+1+1,0,none⟩,3,3⟩⟩) [3] [3] [10,20,30] [2,0,-1]=.ok (6,[3],[30,10,30]) from jrL] at E1;unfold jaA jqs at E1;simp only at E1;clear b0 b1 b2 b3 b4 gW gV c0 c1 c2 p0 p1 p2 p3 p4 ZW;go_enter Tryz.func5,Tryz.ntmps5;go_wp2_with fail;rw [← hW,← hV];clear hW hV n0 n1 n2 n3 n4 x0 x1 x2;refine E1.out.mono ?_;rintro e w1 ⟨hg1,⟨ty,⟨da,dn,dc⟩,⟨ta,tn,tc⟩⟩,ht,rfl,od,ot⟩;simp only at ht;subst ht;unfold jjQ;simp only;obtain ⟨p,hp⟩ : ∃ p,p=w1.alloc (.cells #[.int .i64 6,.slice da dn dc,.slice ta tn tc] 32):=⟨_,rfl⟩
 obtain ⟨bp,zp⟩:=jcQ (.cells #[.int .i64 6,.slice da dn dc,.slice ta tn tc] 32) (x:=w1) rfl;rw [← hp] at bp zp;have gp:w1.grownBy p none:=by rw [hp];exact jab _ _
 obtain ⟨q,hq⟩ : ∃ q,q=(p.alloc (.cells #[.int .i64 3] 2)).alloc (.cells #[.int .i64 6,.slice (some ⟨w.heap.size+1+1,0,none⟩) 1 1,.slice (some ⟨w.heap.size+1+1+1,0,none⟩) 3 3,.int .i64 7,.slice none 0 0,.slice (some ⟨w1.heap.size+1,0,none⟩) 1 1] 32):=⟨_,rfl⟩
 obtain ⟨c0,c1⟩:=jaJ p (.cells #[.int .i64 3] 2) (.cells #[.int .i64 6,.slice (some ⟨w.heap.size+1+1,0,none⟩) 1 1,.slice (some ⟨w.heap.size+1+1+1,0,none⟩) 3 3,.int .i64 7,.slice none 0 0,.slice (some ⟨w1.heap.size+1,0,none⟩) 1 1] 32);rw [← hq,zp] at c0 c1;have gq:p.grownBy q none:=by rw [hq];exact jaa (jab _ _) (jab _ _)
 have GQ:=jac (jaa (jaa GV.out hg1) (jaa gp gq));have GP:=jac (jaa (jaa GV.out hg1) gp);have GP0:=jac (jaa (jaa GV0.out hg1) gp);have D1:=jac (od.ints.more (jaa gp gq));have T1:=jac (ot.ints.more (jaa gp gq));obtain ⟨p0,p1,p2,p3,p4⟩:=BX.out q (jaa GP0.out gq)
 have E2:=jac (jsl ⟨⟨#[71,97,116,104,101,114]⟩,⟨#[]⟩,⟨some ⟨w.heap.size,0,none⟩,2,2⟩,⟨#[122]⟩,jqs⟩ ⟨⟨#[71,97,116,104,101,114]⟩,[],[]⟩ ⟨#[120]⟩ ⟨#[121]⟩ rfl ⟨some ⟨w1.heap.size+1+1,0,none⟩,2,2⟩ ⟨6,⟨some ⟨w.heap.size+1+1,0,none⟩,1,1⟩,⟨some ⟨w.heap.size+1+1+1,0,none⟩,3,3⟩⟩ ⟨7,⟨none,0,0⟩,⟨some ⟨w1.heap.size+1,0,none⟩,1,1⟩⟩ [3] [] [10,20,30] [3] q (HL.out.more GQ.out) (jnU q _ _ _ _ (jn6 p0)) (jnV q _ _ _) (by kernel_rfl) (by kernel_rfl) (by show 1≤1048576;omega) (jj5 _ _ c1 (jcm (zs:=[3]) p2 (by simp) (by simp)) (jcm (zs:=[10,20,30]) p3 (by simp) (by simp)) (jjP q) (jcm (zs:=[3]) c0 (by simp) (by simp))) (by decide) (fun ax h1 h2=>by
  exfalso;rw [show ja4 (At.int ⟨⟨#[71,97,116,104,101,114]⟩,[],[]⟩ ⟨#[97,120,105,115]⟩ 0) [(3:Int)].length=some 0 from by kernel_rfl] at h1
  cases h1
  exact absurd h2 (by decide)))
 rw [show gaR ⟨⟨#[71,97,116,104,101,114]⟩,[],[]⟩ (Ten.ty ⟨6,⟨some ⟨w.heap.size+1+1,0,none⟩,1,1⟩,⟨some ⟨w.heap.size+1+1+1,0,none⟩,3,3⟩⟩) (Ten.ty ⟨7,⟨none,0,0⟩,⟨some ⟨w1.heap.size+1,0,none⟩,1,1⟩⟩) [3] [] [10,20,30] [3]=.error 8 from jrM] at E2;unfold jaA jqs at E2;simp only at E2;obtain ⟨n0,n1,n2,n3,n4⟩:=jai (n:=⟨⟨#[71,97,116,104,101,114]⟩,⟨#[]⟩,⟨some ⟨w.heap.size,0,none⟩,2,2⟩,⟨#[122]⟩,⟨none,0,0⟩⟩) (BX.out p GP0.out).2.1;obtain ⟨x0,x1,x2⟩:=jaK (BX.out p GP0.out).2.2.2.2;rw [hp] at n0 n1 n2 n3 n4 x0 x1 x2;have BP:=jac (jag bp gq);clear p0 p1 p2 p3 p4 c0 c1 bp zp gp gq od ot E1 hg1;go_wp2_with fail;rw [← hp,← hq];clear hp hq n0 n1 n2 n3 n4 x0 x1 x2;refine E2.out.mono ?_;rintro e w2 ⟨hg2,rfl⟩;simp only;obtain ⟨p,hp⟩ : ∃ p,p=((w2.alloc (.cells #[.int .i64 0,.slice none 0 0,.slice none 0 0] 32)).alloc (.cells #[.int .i64 3] 3)).alloc (.cells #[.int .i64 30,.int .i64 10,.int .i64 30] 2):=⟨_,rfl⟩
 obtain ⟨c0,c1,c2⟩:=jdY w2 (.cells #[.int .i64 0,.slice none 0 0,.slice none 0 0] 32) (.cells #[.int .i64 3] 3) (.cells #[.int .i64 30,.int .i64 10,.int .i64 30] 2);have gp:w2.grownBy p none:=by rw [hp];exact jaa (jaa (jab _ _) (jab _ _)) (jab _ _)
 rw [← hp] at c0 c1 c2;have hg3:=jaa hg2 gp;obtain ⟨x0,x1,x2⟩:=jaK (jag BP.out (jaa hg2 (jab w2 (.cells #[.int .i64 0,.slice none 0 0,.slice none 0 0] 32))));have SA:=jac (jgv 6 _ _ _ _ [3] [30,10,30] p (D1.out.more hg3) (T1.out.more hg3) (jcm (zs:=[3]) c1 (by simp) (by simp)) (jcm (zs:=[30,10,30]) c2 (by simp) (by simp)));simp only [Sl.v,List.length_cons,List.length_nil] at SA;have GZ:=jac (jaa GQ.out hg3);clear c0 c1 c2 gp hg2 hg3 E2;go_wp2_with (first | (go_at_call 7;rw [← hp];refine SA.out.mono ?_;rintro e w7 ⟨rfl,hg7⟩) | fail);go_ret;exact ⟨rfl,jaa GZ.out hg7⟩
end Go.Proofs.YtanpkdkenifmbaaGreatDoor
