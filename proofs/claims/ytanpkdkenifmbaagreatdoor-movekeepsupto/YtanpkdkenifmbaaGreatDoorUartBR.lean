/- A part. -/
import Derived.Test.YtanpkdkenifmbaaGreatDoorMUart
import Derived.Test.YtanpkdkenifmbaaGreatDoorUartBQ
import Derived.Laws.CopyOwn
import Derived.Test.YtanpkdkenifmbaaGreatDoorUartBO
import Derived.Deep.RegionHeld3
import Derived.Deep.LoopGhost
set_option maxHeartbeats 16000000
set_option maxRecDepth 100000
namespace Go.Proofs.YtanpkdkenifmbaaGreatDoor
open Go.RowKit
def jlz (xs:List Int) (W i:Nat):List Int:=(xs.drop (i*W)).take W
def jf9 (xs:List Int) (W dim A:Nat) (ps:List Int):List (List Int):=(List.range A).flatMap fun h=>ps.map fun p=>jlz xs W (h*dim+p.toNat)
theorem jhn {xs:List Int} {W i:Nat} (h:i*W+W≤xs.length):(jlz xs W i).length=W:=by
 unfold jlz;rw [List.length_take,List.length_drop];omega
theorem jn7 (xs:List Int) (W dim A:Nat) (ps:List Int):(jf9 xs W dim A ps).length=A*ps.length:=jea _ _ _ fun i _=>by simp
theorem jpW (xs:List Int) (W dim A:Nat) (ps:List Int) (h j:Nat) (hh:h<A) (hj:j<ps.length):(jf9 xs W dim A ps).getD (h*ps.length+j) []=jlz xs W (h*dim+(ps.getD j 0).toNat):=by
 have e:=jhO (fun h=>ps.map fun p=>jlz xs W (h*dim+p.toNat)) ps.length A (fun i _=>by simp) h hh;have e2:(((jf9 xs W dim A ps).drop (h*ps.length)).take ps.length).getD j []=(ps.map fun p=>jlz xs W (h*dim+p.toNat)).getD j []:=by unfold jf9;rw [e]
 simp only [List.getD] at e2;rw [List.getElem?_take_of_lt hj,List.getElem?_drop] at e2;simp only [List.getD];rw [e2,List.getElem?_map];simp [hj]
def jcA (rs:List (List Int)) (m N W:Nat):List Int:=(rs.take m).flatten++List.replicate (N - m*W) 0
theorem jc4 {rs:List (List Int)} {W:Nat} (hr:∀ r∈rs,r.length=W):∀ m,m≤rs.length→(rs.take m).flatten.length=m*W
 | 0,_=>by simp
 | m+1,h=>by
  rw [List.take_add_one,List.getElem?_eq_getElem (by omega),Option.toList_some,List.flatten_append,List.length_append,jc4 hr m (by omega),List.flatten_singleton,hr _ (List.getElem_mem _),Nat.add_mul,Nat.one_mul]
theorem jn8 {rs:List (List Int)} {m N W:Nat} (hr:∀ r∈rs,r.length=W) (hm:m≤rs.length) (hN:m*W≤N):(jcA rs m N W).length=N:=by
 unfold jcA;rw [List.length_append,jc4 hr m hm,List.length_replicate];omega
theorem jln {rs:List (List Int)} {N W:Nat} (hN:N=rs.length*W):jcA rs rs.length N W=rs.flatten:=by
 unfold jcA;rw [hN,Nat.sub_self,List.replicate_zero,List.append_nil,List.take_length]
theorem jlo {rs:List (List Int)} {m N W:Nat} (hr:∀ r∈rs,r.length=W) (hm:m<rs.length) (hN:m*W+W≤N):splice (jcA rs m N W) (m*W) (rs.getD m [])=jcA rs (m+1) N W:=by
 have hl:=jc4 hr m (by omega);have e:rs.getD m []=rs[m]:=by simp [List.getD,hm]
 have hw:(rs.getD m []).length=W:=by rw [e];exact hr _ (List.getElem_mem _)
 unfold splice jcA;rw [hw,List.take_append_of_le_length (by omega),List.take_of_length_le (by omega),List.drop_append,List.drop_of_length_le (by omega),List.nil_append,hl,List.drop_replicate,List.take_add_one,List.getElem?_eq_getElem hm,Option.toList_some,List.flatten_append,List.flatten_singleton,e,List.append_assoc];rw [show N - m*W - (m*W+W - m*W)=N - (m+1)*W from by rw [Nat.add_mul];omega]
theorem jgE {L cs:List Int} {off:Nat} (f:Int→Value):splice (L.map f) off (cs.map f)=(splice L off cs).map f:=by
 unfold splice;simp [List.map_take,List.map_drop]
end Go.Proofs.YtanpkdkenifmbaaGreatDoor
namespace Go.Proofs.YtanpkdkenifmbaaGreatDoor
open Go.RowKit
def jcR (ps:List (List Int×Nat)) (h:Nat):List Int:=ps.flatMap fun p=>jlz p.1 p.2 h
def jc5 (ps:List (List Int×Nat)) (A:Nat):List Int:=(List.range A).flatMap (jcR ps)
def jdK (ps:List (List Int×Nat)) (h j:Nat):List Int:=(List.range h).flatMap (jcR ps)++jcR (ps.take j) h
def jfM (D:List Int) (N:Nat):List Int:=D++List.replicate (N - D.length) 0
theorem jip (ps:List (List Int×Nat)) (h:Nat):jdK ps h 0=(List.range h).flatMap (jcR ps):=by
 unfold jdK;rw [List.take_zero];simp [jcR]
theorem jpX (ps:List (List Int×Nat)) (h:Nat):jdK ps h ps.length=jdK ps (h+1) 0:=by
 rw [jip];unfold jdK;rw [List.take_length,List.range_succ,List.flatMap_append];simp
theorem jn9 (ps:List (List Int×Nat)) (h j:Nat) (hj:j<ps.length):jdK ps h (j+1)=jdK ps h j++jlz ps[j].1 ps[j].2 h:=by
 unfold jdK;rw [List.take_add_one,List.getElem?_eq_getElem hj,Option.toList_some];unfold jcR;rw [List.flatMap_append,List.append_assoc];simp
theorem jj6 (ps:List (List Int×Nat)) (A h j:Nat) (hh:h<A):jdK ps h j <+: jc5 ps A:=by
 have e:jc5 ps A=jdK ps h j++((jcR (ps.drop j) h)++((List.range A).drop (h+1)).flatMap (jcR ps)):=by
  unfold jc5 jdK
  have e1:List.range A=List.range h++(h::(List.range A).drop (h+1)):=by
   have:=List.take_append_drop h (List.range A);rw [List.take_range,Nat.min_eq_left (by omega)] at this
   conv=>lhs;rw [← this]
   congr 1
   have h1:h<(List.range A).length:=by simpa using hh
   rw [List.drop_eq_getElem_cons h1];simp
  rw [show (List.range A).flatMap (jcR ps)=(List.range h++(h::(List.range A).drop (h+1))).flatMap (jcR ps) from by rw [← e1]];rw [List.flatMap_append,List.flatMap_cons,List.append_assoc]
  congr 1
  have e2:jcR ps h=jcR (ps.take j) h++jcR (ps.drop j) h:=by
   unfold jcR;rw [← List.flatMap_append,List.take_append_drop]
  rw [e2,List.append_assoc]
 rw [e];exact List.prefix_append _ _
theorem jrI (ps:List (List Int×Nat)) (A h j:Nat) (hh:h<A):(jdK ps h j).length≤(jc5 ps A).length:=(jj6 ps A h j hh).length_le
theorem jj7 {D:List Int} {N:Nat} (h:D.length≤N):(jfM D N).length=N:=by
 unfold jfM;rw [List.length_append,List.length_replicate];omega
theorem joa {D r:List Int} {N:Nat} (h:D.length+r.length≤N):splice (jfM D N) D.length r=jfM (D++r) N:=by
 unfold splice jfM;rw [List.take_append_of_le_length (Nat.le_refl _),List.take_length,List.drop_append,List.drop_of_length_le (by omega),List.nil_append,List.drop_replicate,List.length_append,← List.append_assoc]
 congr 2
 omega
theorem job (D:List Int):jfM D D.length=D:=by
 unfold jfM;rw [Nat.sub_self,List.replicate_zero,List.append_nil]
end Go.Proofs.YtanpkdkenifmbaaGreatDoor
namespace Go.Proofs.YtanpkdkenifmbaaGreatDoor
open Go.RowKit
theorem jdR {w w':World} (h:Below w.heap.size w w'):w.grownBy w' none:=⟨h.os,h.tape,h.output,h.size,fun k hk _=>h.block k hk⟩
theorem jrJ {w:World} {n c:Nat} {zs:List Int} (h:IsInts w (.slice none n c) zs):c=0:=by
 obtain ⟨ao,cap,e,-,-,-,h0,-⟩:=h;simp only [Value.slice.injEq] at e;obtain ⟨rfl,-,rfl⟩:=e;exact (h0 rfl).2
theorem jj8 {w:World} {base g N:Nat} {zs:List Int} (h:jbC w base (.slice (some ⟨g,0,none⟩) N N) zs) (hz:zs.length=N):w.heap[g]?=some (.cells (zs.map (Value.int .i64)).toArray 2 (0,0))∧base≤g:=by
 rcases h.1.2 with ⟨e,-⟩ | ⟨g',cap,cur,e,e1,e2,e3,e4,e5,e6⟩
 ·cases e
 ·simp only [Value.slice.injEq,Option.some.injEq,Addr.mk.injEq,and_true] at e;obtain ⟨rfl,-,rfl⟩:=e;refine ⟨?_,e1⟩;rw [e2]
  have:cur.toList=zs.map (Value.int .i64):=by
   rw [← e6,List.take_of_length_le];rw [Array.length_toList,e5,hz];exact Nat.le_refl _
  rw [← this]
theorem jj9 {w:World} {base g N:Nat} {zs:List Int} (h:w.heap[g]?=some (.cells (zs.map (Value.int .i64)).toArray 2 (0,0))) (hb:base≤g) (hz:zs.length=N) (hN:N≤65536) (hr:∀ z∈zs,-9223372036854775808≤z∧z≤9223372036854775807):jbC w base (.slice (some ⟨g,0,none⟩) N N) zs:=by
 subst hz;refine ⟨⟨by simp,.inr ⟨g,zs.length,_,rfl,hb,h,Nat.le_refl _,by simp only [maxLen];omega,by simp,?_⟩⟩,by omega,hr⟩;rw [List.take_of_length_le (by simp)]
def jdc (xs:List Int) (W dim A:Nat) (idx:List Int):R (List Int):=if jcj dim idx=true then .ok (jf9 xs W dim A (idx.map (jfL dim))).flatten else .error 8
theorem jeG (tx ty : Int) (dv xv iv zv : Sl) (yda : Option Addr) (ydn ydc : Nat) (ds xs idx dims : List Int) (ax M A dim W N : Nat) (w : World) (hd : IsInts w dv.v ds) (hx : IsInts w xv.v xs) (hi : IsInts w iv.v idx) (hz : IsInts w zv.v dims)
    (hax:ax+1+M=ds.length) (hdim:ds.getD ax 0=(dim:Int)) (hd1:dim≤65536) (hW:cnt (ds.drop (ax+1))=(W:Int)) (hW1:1≤W) (hA1:1≤A) (hdm1:1≤dim) (hA:cnt (dims.take ax)=(A:Int)) (hN:cnt dims=(N:Int)) (hNe:N=A*idx.length*W) (hxl:xs.length=A*dim*W) (hx5:xs.length≤65536) (hN5:N≤65536) (hi5:idx.length≤65536) (hi1:1≤idx.length) (hzl:ax≤dims.length) (hr6:ds.length≤6) :
    Calls Tryz.prog 24 #[.agg #[.int .i64 tx,.slice dv.a dv.n dv.c,.slice xv.a xv.n xv.c],.agg #[.int .i64 ty,.slice yda ydn ydc,.slice iv.a iv.n iv.c],.slice zv.a zv.n zv.c,.int .i64 ax] w (EvQ w (jdc xs W dim A idx)):=by
     obtain ⟨i0,hi0,hz0,hzz1,hzz2⟩:=info_parts jni;obtain ⟨da,dn,dc⟩:=dv;obtain ⟨xa,xn,xc⟩:=xv;obtain ⟨ia,inn,ic⟩:=iv;obtain ⟨za,zn,zc⟩:=zv;obtain ⟨_,_,e1,c1,-⟩:=hd.sl;obtain ⟨_,_,e2,c2,-⟩:=hx.sl;obtain ⟨_,_,e3,c3,-⟩:=hi.sl;obtain ⟨_,_,e4,c4,-⟩:=hz.sl;simp only [Sl.v,Value.slice.injEq] at e1 e2 e3 e4;obtain ⟨-,rfl,rfl⟩:=e1;obtain ⟨-,rfl,rfl⟩:=e2;obtain ⟨-,rfl,rfl⟩:=e3;obtain ⟨-,rfl,rfl⟩:=e4;have xpos:0<xs.length:=by rw [hxl];exact Nat.mul_pos (Nat.mul_pos hA1 hdm1) hW1
     obtain ⟨db,df,rfl,hcd⟩:=hd.get (k:=0) (by omega);obtain ⟨xb,xf,rfl,-⟩:=hx.get (k:=0) xpos
     have hza:(za=none∧dims=[]∧zc=0)∨(∃ zb zf,za=some ⟨zb,zf,none⟩)∨∃ a,za=some a∧dims=[]:=by
      cases hdm:dims with
      | nil =>
       subst hdm
       cases za with
       | none=>exact .inl ⟨rfl,rfl,jrJ hz⟩
       | some a=>exact .inr (.inr ⟨a,rfl,rfl⟩)
      | cons d dl =>
       obtain ⟨zb,zf,e,-⟩:=hz.get (k:=0) (by rw [hdm];simp);exact .inr (.inl ⟨zb,zf,e⟩)
     simp only [Sl.v] at hd hx hi hz;have dcell:=hcd ax (by omega);rw [hdim] at dcell;have HD:=jac hd;have HX:=jac hx;have HI:=jac hi;have HZ:=jac hz;obtain ⟨w0,hw0⟩ : ∃ w0,w0=(w.alloc (.cells #[.int .i64 tx,.slice (some ⟨db,df,none⟩) ds.length dc,.slice (some ⟨xb,xf,none⟩) xs.length xc] 32)).alloc (.cells #[.int .i64 ty,.slice yda ydn ydc,.slice ia idx.length ic] 32):=⟨_,rfl⟩
     have g0:w.grownBy w0 none:=by rw [hw0];exact jaa (jab _ _) (jab _ _)
     have hbx:=jaJ w (.cells #[.int .i64 tx,.slice (some ⟨db,df,none⟩) ds.length dc,.slice (some ⟨xb,xf,none⟩) xs.length xc] 32) (.cells #[.int .i64 ty,.slice yda ydn ydc,.slice ia idx.length ic] 32);rw [← hw0] at hbx;obtain ⟨x0,x1,x2⟩:=jaK hbx.1;obtain ⟨y0,y1,y2⟩:=jaK hbx.2;have BX:Hid (∀ wx,w0.grownBy wx none→wx.heap[w.heap.size]?=some (.cells #[.int .i64 tx,.slice (some ⟨db,df,none⟩) ds.length dc,.slice (some ⟨xb,xf,none⟩) xs.length xc] 32 (0,0))):=fun wx h=>jag hbx.1 h;have dcell:=jad dcell g0;have PL:=jac (jfJ ⟨ia,idx.length,ic⟩ idx dim w0 (hi.more g0) (by omega) (by omega));have j1:(ax:Int)<(ds.length:Int):=by omega
     have j1n:ax<ds.length:=by omega
     have G0:=jac g0
     have RN:Hid (∀ r∈jf9 xs W dim A (idx.map (jfL dim)),jcj dim idx=true→r.length=W):=fun r hr hp=>by
      unfold jf9 at hr;obtain ⟨h,hh,hr⟩:=List.mem_flatMap.1 hr;obtain ⟨p,hp',rfl⟩:=List.mem_map.1 hr;obtain ⟨z,hz,rfl⟩:=List.mem_map.1 hp';have hs:=List.all_eq_true.1 hp z hz;obtain ⟨i,hi⟩:=Option.isSome_iff_exists.1 hs;have hlt:=jbw hi;refine jhn ?_;have hh:h<A:=by simpa using hh
      rw [hxl,show (h*dim+(jfL dim z).toNat)*W+W=(h*dim+(jfL dim z).toNat+1)*W from by rw [Nat.add_mul (h*dim+_) 1 W];omega];refine Nat.mul_le_mul_right _ ?_;have:(jfL dim z).toNat=i:=by unfold jfL;rw [hi];simp
      rw [this]
      have:h*dim+dim≤A*dim:=by
       rw [show h*dim+dim=(h+1)*dim from by rw [Nat.add_mul];omega];exact Nat.mul_le_mul_right _ hh
      omega
     rw [hw0] at x0 x1 x2 y0 y1 y2 dcell;have hA5:A≤65536:=Nat.le_trans (Nat.le_trans (Nat.le_mul_of_pos_right A hdm1) (Nat.le_mul_of_pos_right _ hW1)) (by rw [← hxl];exact hx5);have EXL:=jac hxl;have ENE:=jac hNe;have EW:=jac hW;have EA:=jac hA;have EN:=jac hN;have EAX:=jac hax;have HZA:=jac hza;clear hza hd hx hi hz hcd hbx g0 c1 c2 c3 hxl hNe hdim hW hA hN hax;go_enter Tryz.func24,Tryz.ntmps24;go_wp2_with fail;rw [← hw0];rw [← hw0] at x0 x1 x2 y0 y1 y2 dcell;clear hw0;refine PL.out.mono ?_;rintro e w1 ⟨hg1,⟨hp,⟨pa,pn,pc⟩,rfl,ip⟩ | ⟨hp,rfl⟩⟩
     ·have G1:=jac (jaa G0.out hg1);have G01:=jac hg1;obtain ⟨_,_,ep,p1,-⟩:=ip.sl;simp only [Sl.v,Value.slice.injEq,List.length_map] at ep;obtain ⟨-,rfl,rfl⟩:=ep;obtain ⟨pb,pf,rfl,hcp⟩:=ip.get (k:=0) (by rw [List.length_map];omega);have IP:=jac ip;have HP:=jac hp;have C1:=jac (jcp (.slice za dims.length zc) dims w1 (HZ.out.more G1.out));rw [EN.out] at C1;clear hg1 ip hp x0 x1 x2 y0 y1 y2 dcell PL p1;go_wp2_with fail;refine C1.out.mono ?_;rintro e w2 ⟨rfl,rfl⟩;have hb4:i0.bytes*N≤281474976710656:=by rw [hzz2];omega
      have hb5:N≤maxLen:=by simp only [maxLen];omega
      rcases HZA.out with ⟨e1,e2,e3⟩ | ⟨zb,zf,e1⟩ | ⟨az,e1,e2⟩
      all_goals subst e1
      all_goals (
      go_wp2_with (first | (refine wpList_make_full _ rfl (.tmp 33) (.tmp 33) 30 rfl w1.heap.size 2 i0 (.int .i64 0) 1 Tryz.underlying30 hi0 hz0 hzz1 .i64 .i64 _ _ N rfl rfl (by omega) (by omega) hb4 hb5 (Nat.le_refl _) ?_;intro w3 hown hg3) | fail);have g3:=jaa G1.out hg3;have hg13:=jac hg3;have HZ3:=jac (HZ.out.more g3)
      have C2:Hid (∀ v,IsInts w3 v (dims.take ax)→Calls Tryz.prog 44 #[v] w3 fun e w'=>e=.returned (.int .i64 (A:Int))∧w3=w'):=fun v hv=>by
       have k:=jcp v (dims.take ax) w3 hv;rw [EA.out] at k;exact k
      obtain ⟨g,hg⟩ : ∃ g,g=w1.heap.size:=⟨_,rfl⟩
      obtain ⟨Rn,hR⟩ : ∃ Rn,Rn=idx.length:=⟨_,rfl⟩
      obtain ⟨RS,hRS⟩ : ∃ RS,RS=jf9 xs W dim A (idx.map (jfL dim)):=⟨_,rfl⟩
      have RL:Hid (∀ r∈RS,r.length=W):=fun r hr=>by rw [hRS] at hr;exact RN.out r hr HP.out
      have RSL:Hid (RS.length=A*Rn):=by show _=_;rw [hRS,jn7,List.length_map,hR]
      have RAT:Hid (∀ h j,h<A→j<Rn→RS.getD (h*Rn+j) []=jlz xs W (h*dim+((idx.map (jfL dim)).getD j 0).toNat)):=fun h j hh hj=>by
       have e:=jpW xs W dim A (idx.map (jfL dim)) h j hh (by rw [List.length_map,← hR];exact hj);rw [List.length_map,← hR] at e;rw [hRS];exact e
      have GOK:Hid (jdc xs W dim A idx=.ok RS.flatten):=by show _=_;unfold jdc;rw [if_pos HP.out,hRS]
      have PN:Hid (∀ j,j<Rn→∃ pn:Nat,(idx.map (jfL dim)).getD j 0=(pn:Int)∧pn<dim):=fun j hj=>by
       have hj':j<idx.length:=by rw [← hR];exact hj
       have hs:=List.all_eq_true.1 HP.out idx[j] (List.getElem_mem _);obtain ⟨i,hi⟩:=Option.isSome_iff_exists.1 hs;refine ⟨i,?_,jbw hi⟩;rw [List.getD,List.getElem?_map,List.getElem?_eq_getElem hj'];simp only [Option.map_some,Option.getD_some,jfL];rw [hi]
       rfl
      have NE:Hid (N=A*Rn*W):=by show _=_;rw [ENE.out,hR]
      have RWF:Hid (∀ m z,z∈jcA RS m N W → -9223372036854775808≤z∧z≤9223372036854775807):=fun m z hz=>by
       unfold jcA at hz
       rcases List.mem_append.1 hz with hz | hz
       ·obtain ⟨r,hr,hz⟩:=List.mem_flatten.1 hz;have hr:=List.mem_of_mem_take hr;rw [hRS] at hr;unfold jf9 at hr;obtain ⟨h,-,hr⟩:=List.mem_flatMap.1 hr;obtain ⟨p,-,rfl⟩:=List.mem_map.1 hr;exact HX.out.wf z (List.mem_of_mem_drop (List.mem_of_mem_take hz))
       ·rw [(List.mem_replicate.1 hz).2];omega
      have O3:Hid (jbC w3 g (.slice (some ⟨g,0,none⟩) N N) (jcA RS 0 N W)):=by
       rw [jby] at hown;show jbC _ _ _ _;rw [show jcA RS 0 N W=List.replicate N 0 from by simp [jcA],hg];refine ⟨by rw [List.length_replicate];exact hown,by rw [List.length_replicate];omega,fun z hz=>?_⟩;rw [(List.mem_replicate.1 hz).2];omega
      have BP:Hid (∀ wx,w1.grownBy wx none→wx.heap[w.heap.size]?=some (.cells #[.int .i64 tx,.slice (some ⟨db,df,none⟩) ds.length dc,.slice (some ⟨xb,xf,none⟩) xs.length xc] 32 (0,0))):=fun wx h=>BX.out wx (jaa G01.out h);have CP:Hid (∀ wx,w1.grownBy wx none→∀ j,j<Rn→wx.cell? ⟨pb,pf+j,none⟩=some (.int .i64 ((idx.map (jfL dim)).getD j 0))):=fun wx h j hj=>jad (hcp j (by rw [List.length_map,← hR];exact hj)) h;have HRe:=jac hR;rw [← hg,← hR];have HG:=jac hg;clear hown hb4 hb5 hg3 g3 hcp hR hRS hg C1;refine (C2.out _ (by first | (have k:=jem HZ3.out 0 ax zc (by omega) (by omega) (by omega);rw [Nat.add_zero,List.drop_zero] at k;exact k) | (subst e2;obtain rfl:ax=0:=(by simpa using hzl);first | exact HZ3.out | (subst e3;exact HZ3.out)))).mono ?_;rintro e w4 ⟨rfl,rfl⟩;go_wp2_with fail;go_loopw [14,39] (fun at' i wr=>w1.grownBy wr none∧∃ h T:Nat,h≤A∧T=h*Rn*W∧i=.int .i64 h∧at'=.int .i64 T∧jbC wr g (.slice (some ⟨g,0,none⟩) N N) (jcA RS (h*Rn) N W)) (fun _ i _=>A - (intOf i).toNat)
      case atStart=>exact ⟨hg13.out,0,0,Nat.zero_le _,by simp,rfl,rfl,by simpa using O3.out⟩
      case round =>
       obtain ⟨hgo,h,T0,hh,hT0,rfl,rfl,ho⟩:=hrel;obtain ⟨wo,rfl⟩ : ∃ wo,wo=wr:=⟨_,rfl⟩
       have HO:=jac ho;have HGO:=jac hgo;have HT0:=jac hT0;clear ho hT0 hgo
       by_cases hlt:h<A
       ·have hl1:(h:Int)<(A:Int):=by omega
        go_wp2_with fail;go_loopw [14,44] (fun at' i wr=>w1.grownBy wr none∧∃ j m T:Nat,j≤Rn∧m=h*Rn+j∧T=m*W∧i=.int .i64 j∧at'=.int .i64 T∧jbC wr g (.slice (some ⟨g,0,none⟩) N N) (jcA RS m N W)) (fun _ i _=>Rn - (intOf i).toNat)
        case atStart=>exact ⟨HGO.out,0,h*Rn,T0,Nat.zero_le _,by omega,HT0.out,rfl,rfl,HO.out⟩
        case round =>
         obtain ⟨hgr,j,m,T,hj,hm,hT,rfl,rfl,ho⟩:=hrel;have HM:=jac hm;have HT:=jac hT;have OR:=jac ho;have GRr:=jac hgr;clear hm hT ho hgr
         by_cases hjl:j<Rn
         ·obtain ⟨pn,hpn,hpd⟩:=PN.out j hjl;have hcl:=CP.out wr GRr.out j hjl;rw [hpn] at hcl;have hjI:(j:Int)<(Rn:Int):=by omega
          have rn5:Rn≤65536:=by rw [HRe.out];exact hi5
          have mlt:m<RS.length:=by
           rw [RSL.out,HM.out]
           have:h*Rn+Rn≤A*Rn:=by
            rw [show h*Rn+Rn=(h+1)*Rn from by rw [Nat.add_mul];omega];exact Nat.mul_le_mul_right _ hlt
           omega
          have TW:T+W≤N:=by
           rw [HT.out,NE.out,← RSL.out,show m*W+W=(m+1)*W from by rw [Nat.add_mul];omega];exact Nat.mul_le_mul_right _ mlt
          obtain ⟨I,hI⟩ : ∃ I,I=h*dim+pn:=⟨_,rfl⟩
          have IW:I*W+W≤xs.length:=by
           rw [EXL.out,show I*W+W=(I+1)*W from by rw [Nat.add_mul];omega];refine Nat.mul_le_mul_right _ ?_
           have:h*dim+dim≤A*dim:=by
            rw [show h*dim+dim=(h+1)*dim from by rw [Nat.add_mul];omega];exact Nat.mul_le_mul_right _ hlt
           omega
          have I5:I≤65536:=by
           have:I≤I*W:=Nat.le_mul_of_pos_right _ hW1;omega
          have h5:h*dim≤65536:=by omega
          obtain ⟨ROW,hROW⟩ : ∃ r,r=RS.getD m []:=⟨_,rfl⟩
          have RE:Hid (ROW=(xs.drop (I*W)).take W):=by
           show _=_;rw [hROW,HM.out,RAT.out h j hlt hjl,hpn,Int.toNat_natCast,← hI]
           rfl
          have RWL:Hid (ROW.length=W):=by
           show _=_;rw [hROW];have e:RS.getD m []=RS[m]:=by simp [List.getD,mlt]
           rw [e];exact RL.out _ (List.getElem_mem _)
          have RC:Hid (∀ wx,w1.grownBy wx none→Calls Tryz.prog 46 #[.agg #[.int .i64 tx,.slice (some ⟨db,df,none⟩) ds.length dc,.slice (some ⟨xb,xf,none⟩) xs.length xc],.int .i64 ((ax+1:Nat):Int),.int .i64 I] wx fun e w'=>∃ u:Sl,e=.returned u.v∧IsInts w' u.v ROW∧wx.grownBy w' none):=fun wx hx=>by
           have k:=jj4 ⟨tx,⟨some ⟨db,df,none⟩,ds.length,dc⟩,⟨some ⟨xb,xf,none⟩,xs.length,xc⟩⟩ ds xs (ax+1) M I W wx (HD.out.more (jaa G1.out hx)) (HX.out.more (jaa G1.out hx)) (by omega) EAX.out EW.out hW1 IW hx5;rw [← RE.out] at k;exact k
          have PS:Hid (splice ((jcA RS m N W).map (Value.int .i64)) T (ROW.map (Value.int .i64))=(jcA RS (m+1) N W).map (Value.int .i64)):=by
           show _=_;rw [jgE,HT.out,hROW,jlo RL.out mlt (by rw [← HT.out];exact TW)]
          have PLn:Hid (∀ q,q≤RS.length→q*W≤N→(jcA RS q N W).length=N):=fun q h1 h2=>jn8 RL.out h1 h2;have HE:=jac (jj8 OR.out (PLn.out m (by omega) (by rw [← HT.out];omega)));have PLm:=jac (PLn.out m (by omega) (by rw [← HT.out];omega));have PLm1:Hid ((jcA RS (m+1) N W).length=N):=PLn.out (m+1) (by omega) (by rw [Nat.add_mul,Nat.one_mul,← HT.out];exact TW);have t1:¬ T=N:=by omega
          have t2:¬ N=T:=by omega
          have t3:(T:Int)≤(N:Int):=by omega
          have t4:T≤N:=by omega
          obtain ⟨AX1,hAX1⟩ : ∃ z,z=ax+1:=⟨_,rfl⟩
          obtain ⟨HD2,hHD2⟩ : ∃ z,z=h*dim:=⟨_,rfl⟩
          obtain ⟨TW2,hTW2⟩ : ∃ z,z=T+W:=⟨_,rfl⟩
          have w1':Hid (IntKind.i64.wrap ((ax:Int)+1)=(AX1:Int)):=by
           show _=_;rw [jba,show (ax:Int)+1=(AX1:Int) from by omega];exact jcb (Int.natCast_nonneg _) (Int.ofNat_le.2 (show AX1≤1000000 by omega))
          have w2':Hid (IntKind.i64.wrap ((h:Int)*(dim:Int))=(HD2:Int)):=by
           show _=_;rw [jba,← Int.natCast_mul,← hHD2];exact jcb (Int.natCast_nonneg _) (Int.ofNat_le.2 (show HD2≤1000000 by omega))
          have w3':Hid (IntKind.i64.wrap ((HD2:Int)+(pn:Int))=(I:Int)):=by
           show _=_;rw [jba,← Int.natCast_add,hHD2,← hI];exact jcb (Int.natCast_nonneg _) (Int.ofNat_le.2 (show I≤1000000 by omega))
          have w4':Hid (IntKind.i64.wrap ((T:Int)+(W:Int))=(TW2:Int)):=by
           show _=_;rw [jba,← Int.natCast_add,← hTW2];exact jcb (Int.natCast_nonneg _) (Int.ofNat_le.2 (show TW2≤1000000 by omega))
          have T2:Hid (TW2=(m+1)*W):=by show _=_;rw [hTW2,HT.out,Nat.add_mul,Nat.one_mul]
          have RC2:Hid (∀ wx,w1.grownBy wx none→Calls Tryz.prog 46 #[.agg #[.int .i64 tx,.slice (some ⟨db,df,none⟩) ds.length dc,.slice (some ⟨xb,xf,none⟩) xs.length xc],.int .i64 (AX1:Int),.int .i64 I] wx fun e w'=>∃ u:Sl,e=.returned u.v∧IsInts w' u.v ROW∧wx.grownBy w' none):=by rw [hAX1];exact RC.out
          have M2:Hid (m+1=h*Rn+(j+1)):=by show _=_;rw [HM.out];omega
          obtain ⟨x0,x1,x2⟩:=jaK (BP.out w1 (jae _))
          have CPY:Hid (∀ (wx:World) (ra:Option Addr) (n c:Nat),IsInts wx (.slice ra n c) ROW→0<(ROW.map (Value.int .i64)).length→∃ ad,ra=some ad∧∀ j v,(ROW.map (Value.int .i64))[j]?=some v→wx.cell? (ad.add j)=some v):=fun wx ra n c hr hp=>by
           obtain ⟨b,off,rfl,hc⟩:=hr.get (k:=0) (by rw [List.length_map] at hp;exact hp);refine ⟨_,rfl,fun j v hj=>?_⟩;rw [List.getElem?_map] at hj
           have hl:j<ROW.length:=by
            rcases Nat.lt_or_ge j ROW.length with h | h
            ·exact h
            ·rw [List.getElem?_eq_none h] at hj;cases hj
           rw [List.getElem?_eq_getElem hl] at hj
           cases hj
           have k:=hc j hl;rw [List.getD,List.getElem?_eq_getElem hl,Option.getD_some] at k;have ea:Addr.add ⟨b,off,none⟩ j=⟨b,off+j,none⟩:=by unfold Addr.add;split <;> simp_all
           rw [ea];exact k
          clear hpn hpd hROW hI hAX1 hHD2 hTW2;go_wp2_with fail;refine wp_region_held_drew (S:=fun w'=>w1.grownBy w' none) (by kernel_rfl) (jaf GRr.out) (fun hHeld=>?_);refine tkC 0 ?_ (hv:=by intro wS hSw;go_simp;(try with_reducible rfl))
          try simp only [Act.put]
          refine tkC 1 ?_ (hv:=by intro wS hSw;go_simp;(try with_reducible rfl))
          try simp only [Act.put]
          refine tkC 2 ?_ (hv:=by intro wS hSw;go_simp;(try with_reducible rfl))
          try simp only [Act.put]
          refine wpAnyH_take (i:=3) (v:=.slice (some ⟨g,T,none⟩) (N - T) (N - T)) rfl (by kernel_rfl) (by kernel_rfl) (by kernel_rfl) (fun _ _ _ h=>h) (Or.inl ⟨by kernel_rfl,?_⟩) (by assumption) ?_
          ·(intro wS hSw;go_simp;(try simp only []))
          try simp only [Act.put]
          refine tkC 4 ?_ (hv:=by intro wS hSw;have c0:=jad x0 hSw;have c1:=jad x1 hSw;have c2:=jad x2 hSw;go_simp;(try with_reducible rfl))
          try simp only [Act.put]
          refine tkC 5 ?_ (hv:=by intro wS hSw;go_simp;(try with_reducible rfl))
          try simp only [Act.put]
          refine wpAnyH_take (i:=6) (v:=.int .i64 (AX1:Int)) rfl (by kernel_rfl) (by kernel_rfl) (by kernel_rfl) (fun _ _ _ h=>h) (Or.inl ⟨by kernel_rfl,?_⟩) (by assumption) ?_
          ·(intro wS hSw;go_simp;(try simp only [w1'.out]))
          try simp only [Act.put]
          refine tkC 7 ?_ (hv:=by intro wS hSw;go_simp;(try with_reducible rfl))
          try simp only [Act.put]
          refine tkC 8 ?_ (hv:=by intro wS hSw;go_simp;(try with_reducible rfl))
          try simp only [Act.put]
          refine wpAnyH_take (i:=9) (v:=.int .i64 (HD2:Int)) rfl (by kernel_rfl) (by kernel_rfl) (by kernel_rfl) (fun _ _ _ h=>h) (Or.inl ⟨by kernel_rfl,?_⟩) (by assumption) ?_
          ·(intro wS hSw;go_simp;(try simp only [w2'.out]))
          try simp only [Act.put]
          refine tkC 10 ?_ (hv:=by intro wS hSw;go_simp;(try with_reducible rfl))
          try simp only [Act.put]
          refine wpAnyH_take (i:=11) (v:=.int .i64 (I:Int)) rfl (by kernel_rfl) (by kernel_rfl) (by kernel_rfl) (fun _ _ _ h=>h) (Or.inl ⟨by kernel_rfl,?_⟩) (by assumption) ?_
          ·(intro wS hSw;go_simp;(try simp only [w3'.out]))
          try simp only [Act.put]
          refine rdA 12 fun K hK=>?_;go_simp;refine (RC2.out wr.drew hHeld).mono ?_;rintro e v1 ⟨⟨ra,rn,rc⟩,rfl,ir,hy1⟩;obtain ⟨_,_,er,-⟩:=ir.sl;simp only [Sl.v,Value.slice.injEq] at er;obtain ⟨-,er,-⟩:=er;rw [RWL.out] at er;have er2:=er.symm;subst er2;have gv1:w1.grownBy v1 none:=jaa hHeld hy1;have hH1:v1.heap[g]?=some (.cells ((jcA RS m N W).map (Value.int .i64)).toArray 2 (0,0)):=jag HE.out.1 (jaa (jaf (jae _)) hy1);refine hK.out _ _ gv1 (fun hHeld=>?_);clear hK K
          try simp only [Act.put]
          refine rdA 13 fun K hK=>?_;refine step_copy_splice rfl (.tmp 51) (.tmp 60) 30 30 rfl 2 Tryz.underlying30 (by kernel_rfl) (some ⟨g,T,none⟩) ra (N - T) (N - T) W rc rfl rfl g T ((jcA RS m N W).map (Value.int .i64)) 2 hH1 (ROW.map (Value.int .i64)) (by rw [List.length_map,RWL.out];exact (Nat.min_eq_left (by omega)).symm) (fun hp=>⟨rfl,CPY.out v1 ra W rc ir hp⟩) (by rw [List.length_map,List.length_map,RWL.out,PLm.out];exact TW) (by intro v hv;obtain ⟨z,-,rfl⟩:=List.mem_map.1 hv;rfl) g w1 (by rw [HG.out];exact jbL gv1) (Nat.le_refl _) ?_;intro v2 hH2 hb2;rw [PS.out] at hH2;have gv2:w1.grownBy v2 none:=jdR (by rw [← HG.out];exact hb2);rw [List.length_map,RWL.out];refine hK.out _ _ gv2 (fun hHeld=>?_);clear hK K
          try simp only [Act.put]
          refine wpAnyH_take (i:=14) (v:=.int .i64 (TW2:Int)) rfl (by kernel_rfl) (by kernel_rfl) (by kernel_rfl) (fun _ _ _ h=>h) (Or.inl ⟨by kernel_rfl,?_⟩) (by assumption) ?_
          ·(intro wS hSw;go_simp;(try simp only [w4'.out]))
          try simp only [Act.put]
          refine tkC 15 ?_ (hv:=by intro wS hSw;go_simp;(try with_reducible rfl))
          try simp only [Act.put]
          refine wpAnyH_done (by kernel_rfl) ?_ _;have OF:Hid (jbC v2 g (.slice (some ⟨g,0,none⟩) N N) (jcA RS (m+1) N W)):=jj9 hH2.out (Nat.le_refl _) PLm1.out hN5 (RWF.out (m+1));clear hHeld hH1 hH2 hb2 ir hy1 gv1 x0 x1 x2 hcl;go_simp;go_wp2_with fail;go_roundw
          case rel=>exact ⟨gv2,j+1,m+1,TW2,hjl,M2.out,T2.out,by go_num,rfl,OF.out⟩
          case measure=>simp [intOf];omega
         ·obtain rfl:Rn=j:=by omega
          have E1:Hid (m=(h+1)*Rn):=by show _=_;rw [HM.out,Nat.add_mul,Nat.one_mul]
          have E2:Hid (T=(h+1)*Rn*W):=by show _=_;rw [HT.out,E1.out]
          rw [E1.out] at OR;go_wp2_with fail;go_roundw
          case rel=>exact ⟨GRr.out,h+1,T,hlt,E2.out,by go_num,rfl,OR.out⟩
          case measure=>simp [intOf];omega
       ·obtain rfl:A=h:=by omega
        have ok:Hid (jdc xs W dim A idx=.ok (jcA RS (A*Rn) N W)):=by
         show _=_;rw [← RSL.out,jln (by rw [NE.out,RSL.out])];exact GOK.out
        go_wp2;go_ret2;exact jnh ok.out (jaa G1.out HGO.out) ⟨⟨some ⟨g,0,none⟩,N,N⟩,rfl,⟨jaT HO.out.1 (by rw [HG.out];exact G1.out.size),HO.out.2⟩⟩)
     ·have ER:jdc xs W dim A idx=.error 8:=by unfold jdc;rw [hp];rfl
      have HE:=jac ER;have G1:=jac (jaa G0.out hg1);clear ER hp hg1;go_wp2;go_ret2;exact jng HE.out G1.out
theorem jiq (tx ty : Int) (dv xv iv zv : Sl) (yda : Option Addr) (ydn ydc : Nat) (ds xs idx dims : List Int) (ax M A dim W N : Nat) (w : World) (hd : IsInts w dv.v ds) (hx : IsInts w xv.v xs) (hi : IsInts w iv.v idx) (hz : IsInts w zv.v dims)
    (hax:ax+1+M=ds.length) (hdim:ds.getD ax 0=(dim:Int)) (hd1:dim≤65536) (hW:cnt (ds.drop (ax+1))=(W:Int)) (hW1:1≤W) (hA1:1≤A) (hdm1:1≤dim) (hA:cnt (dims.take ax)=(A:Int)) (hN:cnt dims=(N:Int)) (hNe:N=A*idx.length*W) (hxl:xs.length=A*dim*W) (hx5:xs.length≤65536) (hN5:N≤65536) (hi5:idx.length≤65536) (hi1:1≤idx.length) (hzl:ax≤dims.length) (_hz1:1≤dims.length) (hr6:ds.length≤6) :
    Calls Tryz.prog 24 #[.agg #[.int .i64 tx,.slice dv.a dv.n dv.c,.slice xv.a xv.n xv.c],.agg #[.int .i64 ty,.slice yda ydn ydc,.slice iv.a iv.n iv.c],.slice zv.a zv.n zv.c,.int .i64 ax] w (EvQ w (jdc xs W dim A idx)) :=
     jeG tx ty dv xv iv zv yda ydn ydc ds xs idx dims ax M A dim W N w hd hx hi hz hax hdim hd1 hW hW1 hA1 hdm1 hA hN hNe hxl hx5 hN5 hi5 hi1 hzl hr6
end Go.Proofs.YtanpkdkenifmbaaGreatDoor
namespace Go.Proofs.YtanpkdkenifmbaaGreatDoor
open Go.RowKit
def wdJ (ax:Nat) (p:Ten×Tq):Nat:=(cnt (p.2.1.drop ax)).toNat
def pzJ (ax:Nat) (ps:List (Ten×Tq)):List (List Int×Nat):=ps.map fun p=>(p.2.2,wdJ ax p)
structure RowOk (ax A:Nat) (p:Ten×Tq):Prop where
 rank:1≤p.2.1.length
 le:ax≤p.2.1.length
 pos:1≤cnt (p.2.1.drop ax)
 len:p.2.2.length=A*wdJ ax p
 few:p.2.2.length≤65536
theorem jpY {wx:World} {ra:Option Addr} {n c:Nat} {ROW:List Int} (hr:IsInts wx (.slice ra n c) ROW) (hp:0<(ROW.map (Value.int .i64)).length):∃ ad,ra=some ad∧∀ j v,(ROW.map (Value.int .i64))[j]?=some v→wx.cell? (ad.add j)=some v:=by
 obtain ⟨b,off,rfl,hc⟩:=hr.get (k:=0) (by rw [List.length_map] at hp;exact hp);refine ⟨_,rfl,fun j v hj=>?_⟩;rw [List.getElem?_map] at hj
 have hl:j<ROW.length:=by
  rcases Nat.lt_or_ge j ROW.length with h | h
  ·exact h
  ·rw [List.getElem?_eq_none h] at hj;cases hj
 rw [List.getElem?_eq_getElem hl] at hj
 cases hj
 have k:=hc j hl;rw [List.getD,List.getElem?_eq_getElem hl,Option.getD_some] at k;have ea:Addr.add ⟨b,off,none⟩ j=⟨b,off+j,none⟩:=by unfold Addr.add;split <;> simp_all
 rw [ea];exact k
theorem jjs (u zv:Sl) (ps:List (Ten×Tq)) (dims:List Int) (ax A N:Nat) (w:World) (hv:TensIn w u.v ps) (hz:IsInts w zv.v dims) (hax:ax≤dims.length) (hz1:1≤dims.length) (hA:cnt (dims.take ax)=(A:Int)) (hA5:A≤65536) (hN:cnt dims=(N:Int)) (hN5:N≤65536) (hNe:N=(jc5 (pzJ ax ps) A).length) (hok:∀ p∈ps,RowOk ax A p) (hps:ps.length≤1000000) :
    Calls Tryz.prog 22 #[.slice u.a u.n u.c,.slice zv.a zv.n zv.c,.int .i64 ax] w fun e w'=>∃ v:Sl,e=.returned v.v∧jbC w' w.heap.size v.v (jc5 (pzJ ax ps) A)∧w.grownBy w' none:=by
     obtain ⟨i0,hi0,hz0,hzz1,hzz2⟩:=info_parts jni;obtain ⟨za,zn,zc⟩:=zv;obtain ⟨_,_,e4,c4,-⟩:=hz.sl;simp only [Sl.v,Value.slice.injEq] at e4;obtain ⟨-,rfl,rfl⟩:=e4;obtain ⟨zb,zf,rfl,-⟩:=hz.get (k:=0) (by omega);simp only [Sl.v] at hz;obtain ⟨xa,xc,e1,p1,p2,p3⟩:=hv.vals.form;rw [List.length_map] at e1 p1 p3;obtain ⟨ua,un,uc⟩:=u;simp only [Sl.v,Value.slice.injEq] at e1;obtain ⟨rfl,rfl,rfl⟩:=e1;have HV:=jac hv;have HZ:=jac hz;have OK:=jac hok;have EA:=jac hA;have EN:=jac hN;have ENE:=jac hNe;obtain ⟨PZ,hPZ⟩ : ∃ z,z=pzJ ax ps:=⟨_,rfl⟩
     rw [← hPZ] at ENE ⊢;have PL:Hid (PZ.length=ps.length):=by show _=_;rw [hPZ];unfold pzJ;rw [List.length_map]
     have PA:Hid (∀ j (h:j<ps.length) (h2:j<PZ.length),PZ[j]=(ps[j].2.2,wdJ ax ps[j])):=fun j h h2=>by subst hPZ;simp [pzJ]
     have WF:Hid (∀ z∈jc5 PZ A,-9223372036854775808≤z∧z≤9223372036854775807):=fun z hz=>by
      rw [hPZ] at hz;unfold jc5 at hz;obtain ⟨h,-,hz⟩:=List.mem_flatMap.1 hz;unfold jcR pzJ at hz;obtain ⟨q,hq,hz⟩:=List.mem_flatMap.1 hz;obtain ⟨p,hp,rfl⟩:=List.mem_map.1 hq;exact (HV.out.has p hp).2.wf z (List.mem_of_mem_drop (List.mem_of_mem_take hz))
     have C1:=jac (jcp (.slice (some ⟨zb,zf,none⟩) dims.length zc) dims w hz);rw [EN.out] at C1;have hb4:i0.bytes*N≤281474976710656:=by rw [hzz2];omega
     have hb5:N≤maxLen:=by simp only [maxLen];omega
     clear hv hz hok hA hN hNe hPZ p1 p2 p3;go_enter Tryz.func22,Tryz.ntmps22;go_wp2_with fail;refine C1.out.mono ?_;rintro e w1 ⟨rfl,rfl⟩;go_wp2_with (first | (refine wpList_make_full _ rfl (.tmp 13) (.tmp 13) 30 rfl w.heap.size 2 i0 (.int .i64 0) 1 Tryz.underlying30 hi0 hz0 hzz1 .i64 .i64 _ _ N rfl rfl (by omega) (by omega) hb4 hb5 (Nat.le_refl _) ?_;intro w3 hown hg3) | fail)
     have C2:=jac (jcp (.slice (some ⟨zb,zf,none⟩) ax zc) (dims.take ax) w3 (by
      have k:=jem (HZ.out.more hg3) 0 ax zc (by omega) (by omega) (by omega);rw [Nat.add_zero,List.drop_zero] at k;exact k))
     rw [EA.out] at C2;obtain ⟨g,hg⟩ : ∃ g,g=w.heap.size:=⟨_,rfl⟩
     have HG:=jac hg
     have O3:Hid (jbC w3 g (.slice (some ⟨g,0,none⟩) N N) (jfM (jdK PZ 0 0) N)):=by
      rw [jby] at hown;show jbC _ _ _ _;rw [show jfM (jdK PZ 0 0) N=List.replicate N 0 from by simp [jfM,jdK,jcR],hg];refine ⟨by rw [List.length_replicate];exact hown,by rw [List.length_replicate];omega,fun z hz=>?_⟩;rw [(List.mem_replicate.1 hz).2];omega
     have G3:=jac hg3;rw [← hg];clear hown hb4 hb5 hg3 hg C1;go_wp2_with fail;refine C2.out.mono ?_;rintro e w4 ⟨rfl,rfl⟩;go_wp2_with fail;go_loopw [8,19] (fun at' i wr=>w.grownBy wr none∧∃ h T:Nat,h≤A∧T=(jdK PZ h 0).length∧i=.int .i64 h∧at'=.int .i64 T∧jbC wr g (.slice (some ⟨g,0,none⟩) N N) (jfM (jdK PZ h 0) N)) (fun _ i _=>A - (intOf i).toNat)
     case atStart=>exact ⟨G3.out,0,0,Nat.zero_le _,by simp [jdK,jcR],rfl,rfl,O3.out⟩
     case round =>
      obtain ⟨hgo,h,T0,hh,hT0,rfl,rfl,ho⟩:=hrel;obtain ⟨wo,rfl⟩ : ∃ wo,wo=wr:=⟨_,rfl⟩
      have HO:=jac ho;have HGO:=jac hgo;have HT0:=jac hT0;clear ho hT0 hgo
      by_cases hlt:h<A
      ·have hl1:(h:Int)<(A:Int):=by omega
       go_wp2_with fail;go_loopw [8,24] (fun at' i wr=>w.grownBy wr none∧∃ j T:Nat,j≤ps.length∧T=(jdK PZ h j).length∧i=.int .i64 j∧at'=.int .i64 T∧jbC wr g (.slice (some ⟨g,0,none⟩) N N) (jfM (jdK PZ h j) N)) (fun _ i _=>ps.length - (intOf i).toNat)
       case atStart=>exact ⟨HGO.out,0,T0,Nat.zero_le _,HT0.out,rfl,rfl,HO.out⟩
       case round =>
        obtain ⟨hgr,j,T,hj,hT,rfl,rfl,ho⟩:=hrel;have HT:=jac hT;have OR:=jac ho;have GRr:=jac hgr;clear hT ho
        by_cases hjl:j<ps.length
        ·have hjI:(j:Int)<(ps.length:Int):=by omega
         have rk:=OK.out ps[j] (List.getElem_mem _);obtain ⟨b,off,rfl⟩:=HV.out.vals.addr (k:=j) (by rw [List.length_map];exact hjl);obtain ⟨a0,a1,a2⟩:=(HV.out.more hgr).at j hjl;have HH:=jac (HV.out.has ps[j] (List.getElem_mem _));have STP:=jac (jn9 PZ h j (by rw [PL.out];exact hjl));rw [PA.out j hjl (by rw [PL.out];exact hjl)] at STP;simp only at STP;have LE:=jrI PZ A h (j+1) hlt;obtain ⟨p,hp⟩ : ∃ p,p=ps[j]:=⟨_,rfl⟩
         rw [← hp] at rk a0 a1 a2 HH STP;obtain ⟨W,hW⟩ : ∃ W,W=wdJ ax p:=⟨_,rfl⟩
         have hcW:cnt (p.2.1.drop ax)=(W:Int):=by
          have:=rk.pos;rw [hW];unfold wdJ;omega
         have hlen:=rk.len;rw [← hW] at hlen STP;have HW1:1≤W:=by have:=rk.pos;omega
         have IW:h*W+W≤p.2.2.length:=by
          rw [hlen,show h*W+W=(h+1)*W from by rw [Nat.add_mul];omega];exact Nat.mul_le_mul_right _ hlt
         have few:=rk.few;obtain ⟨M,hM⟩ : ∃ M,ax+M=p.2.1.length:=⟨p.2.1.length - ax,by have:=rk.le;omega⟩
         have rk1:=rk.rank;obtain ⟨ROW,hROW⟩ : ∃ r,r=jlz p.2.2 W h:=⟨_,rfl⟩
         have RWL:Hid (ROW.length=W):=by show _=_;rw [hROW];exact jhn IW
         rw [← hROW] at STP;obtain ⟨⟨tx,⟨da,dn,dc⟩,⟨ta,tn,tc⟩⟩,⟨ds,ts⟩⟩:=p;simp only at a0 a1 a2 HH hcW hM rk1 IW few hROW
         have RC:Hid (∀ wx,w.grownBy wx none→Calls Tryz.prog 46 #[.agg #[.int .i64 tx,.slice da dn dc,.slice ta tn tc],.int .i64 ax,.int .i64 h] wx fun e w'=>∃ u:Sl,e=.returned u.v∧IsInts w' u.v ROW∧wx.grownBy w' none):=fun wx hx=>by
          have k:=jj4 ⟨tx,⟨da,dn,dc⟩,⟨ta,tn,tc⟩⟩ ds ts ax M h W wx (HH.out.1.more hx) (HH.out.2.more hx) rk1 hM hcW HW1 IW few;rw [show (ts.drop (h*W)).take W=ROW from hROW.symm] at k;exact k
         have DL:(jdK PZ h (j+1)).length=T+W:=by rw [STP.out,List.length_append,RWL.out,HT.out]
         have TW:T+W≤N:=by rw [ENE.out,← DL];exact LE
         have PS:Hid (splice ((jfM (jdK PZ h j) N).map (Value.int .i64)) T (ROW.map (Value.int .i64))=(jfM (jdK PZ h (j+1)) N).map (Value.int .i64)):=by
          show _=_;rw [jgE,HT.out,joa (by rw [← HT.out,RWL.out];exact TW),STP.out]
         have PLm:Hid ((jfM (jdK PZ h j) N).length=N):=jj7 (by rw [← HT.out];omega);have PLm1:Hid ((jfM (jdK PZ h (j+1)) N).length=N):=jj7 (by rw [DL];exact TW)
         have WF1:Hid (∀ z∈jfM (jdK PZ h (j+1)) N,-9223372036854775808≤z∧z≤9223372036854775807):=fun z hz=>by
          unfold jfM at hz
          rcases List.mem_append.1 hz with hz | hz
          ·exact WF.out z ((jj6 PZ A h (j+1) hlt).subset hz)
          ·rw [(List.mem_replicate.1 hz).2];omega
         have HE:=jac (jj8 OR.out PLm.out);have DL2:=jac DL;have t1:¬ T=N:=by omega
         have t2:¬ N=T:=by omega
         have t3:(T:Int)≤(N:Int):=by omega
         have t4:T≤N:=by omega
         obtain ⟨TW2,hTW2⟩ : ∃ z,z=T+W:=⟨_,rfl⟩
         have T2:Hid (TW2=(jdK PZ h (j+1)).length):=by show _=_;rw [hTW2,DL]
         have w4':Hid (IntKind.i64.wrap ((T:Int)+(W:Int))=(TW2:Int)):=by
          show _=_;rw [jba,← Int.natCast_add,← hTW2];exact jcb (Int.natCast_nonneg _) (Int.ofNat_le.2 (show TW2≤1000000 by omega))
         obtain ⟨wz,hwz⟩ : ∃ wz,wz=wr.alloc (.cells #[.int .i64 tx,.slice da dn dc,.slice ta tn tc] 32):=⟨_,rfl⟩
         have bz:=heap_alloc_new wr (.cells #[.int .i64 tx,.slice da dn dc,.slice ta tn tc] 32);rw [← hwz] at bz;have gz:wr.grownBy wz none:=by rw [hwz];exact jab _ _
         have GZ:=jac (jaa hgr gz);have GZr:=jac gz;clear hp rk hW hcW hlen hM rk1 hROW LE DL hTW2 IW few gz hgr;go_wp2_with fail;rw [← hwz];clear hwz;obtain ⟨x0,x1,x2⟩:=jaK bz;clear bz a0 a1 a2;refine wp_region_held_drew (S:=fun w'=>w.grownBy w' none) (by kernel_rfl) (jaf GZ.out) (fun hHeld=>?_);refine tkC 0 ?_ (hv:=by intro wS hSw;go_simp;(try with_reducible rfl))
         try simp only [Act.put]
         refine tkC 1 ?_ (hv:=by intro wS hSw;go_simp;(try with_reducible rfl))
         try simp only [Act.put]
         refine tkC 2 ?_ (hv:=by intro wS hSw;go_simp;(try with_reducible rfl))
         try simp only [Act.put]
         refine wpAnyH_take (i:=3) (v:=.slice (some ⟨g,T,none⟩) (N - T) (N - T)) rfl (by kernel_rfl) (by kernel_rfl) (by kernel_rfl) (fun _ _ _ h=>h) (Or.inl ⟨by kernel_rfl,?_⟩) (by assumption) ?_
         ·(intro wS hSw;go_simp;(try simp only []))
         try simp only [Act.put]
         refine tkC 5 ?_ (hv:=by intro wS hSw;go_simp;(try with_reducible rfl))
         try simp only [Act.put]
         refine tkC 6 ?_ (hv:=by intro wS hSw;go_simp;(try with_reducible rfl))
         try simp only [Act.put]
         refine rdA 4 fun K hK=>?_;go_simp;refine hK.out _ _ (by first | assumption | exact GZ.out | exact jaf GZ.out) (fun hHeld=>?_);clear hK K
         try simp only [Act.put]
         refine rdA 7 fun K hK=>?_;go_simp;refine (RC.out wz.drew (jaf GZ.out)).mono ?_;rintro e v1 ⟨⟨ra,rn,rc⟩,rfl,ir,hy1⟩;obtain ⟨_,_,er,-⟩:=ir.sl;simp only [Sl.v,Value.slice.injEq] at er;obtain ⟨-,er,-⟩:=er;rw [RWL.out] at er;have er2:=er.symm;subst er2;have gv1:w.grownBy v1 none:=jaa (jaf GZ.out) hy1;have hH1:v1.heap[g]?=some (.cells ((jfM (jdK PZ h j) N).map (Value.int .i64)).toArray 2 (0,0)):=jag HE.out.1 (jaa GZr.out (jaa (jaf (jae _)) hy1));refine hK.out _ _ gv1 (fun hHeld=>?_);clear hK K
         try simp only [Act.put]
         refine rdA 8 fun K hK=>?_;refine step_copy_splice rfl (.tmp 31) (.tmp 35) 30 30 rfl 2 Tryz.underlying30 (by kernel_rfl) (some ⟨g,T,none⟩) ra (N - T) (N - T) W rc rfl rfl g T ((jfM (jdK PZ h j) N).map (Value.int .i64)) 2 hH1 (ROW.map (Value.int .i64)) (by rw [List.length_map,RWL.out];exact (Nat.min_eq_left (by omega)).symm) (fun hp=>⟨rfl,jpY ir hp⟩) (by rw [List.length_map,List.length_map,RWL.out,PLm.out];exact TW) (by intro v hv;obtain ⟨z,-,rfl⟩:=List.mem_map.1 hv;rfl) g w (by rw [HG.out];exact jbL gv1) (Nat.le_refl _) ?_;intro v2 hH2 hb2;rw [PS.out] at hH2;have gv2:w.grownBy v2 none:=jdR (by rw [← HG.out];exact hb2);rw [List.length_map,RWL.out];refine hK.out _ _ gv2 (fun hHeld=>?_);clear hK K
         try simp only [Act.put]
         refine wpAnyH_take (i:=9) (v:=.int .i64 (TW2:Int)) rfl (by kernel_rfl) (by kernel_rfl) (by kernel_rfl) (fun _ _ _ h=>h) (Or.inl ⟨by kernel_rfl,?_⟩) (by assumption) ?_
         ·(intro wS hSw;go_simp;(try simp only [w4'.out]))
         try simp only [Act.put]
         refine tkC 10 ?_ (hv:=by intro wS hSw;go_simp;(try with_reducible rfl))
         try simp only [Act.put]
         refine wpAnyH_done (by kernel_rfl) ?_ _;have OF:Hid (jbC v2 g (.slice (some ⟨g,0,none⟩) N N) (jfM (jdK PZ h (j+1)) N)):=jj9 hH2.out (Nat.le_refl _) PLm1.out hN5 WF1.out;clear hHeld hH1 hH2 hb2 ir hy1 gv1 x0 x1 x2;go_simp;go_wp2_with fail;go_roundw
         case rel=>exact ⟨gv2,j+1,TW2,hjl,T2.out,by go_num,rfl,OF.out⟩
         case measure=>simp [intOf];omega
        ·obtain rfl:ps.length=j:=by omega
         have E1:Hid (jdK PZ h ps.length=jdK PZ (h+1) 0):=by show _=_;rw [← PL.out];exact jpX PZ h
         rw [E1.out] at OR HT;clear hgr;go_wp2_with fail;go_roundw
         case rel=>exact ⟨GRr.out,h+1,T,hlt,HT.out,by go_num,rfl,OR.out⟩
         case measure=>simp [intOf];omega
      ·obtain rfl:A=h:=by omega
       have ok:Hid (jfM (jdK PZ A 0) N=jc5 PZ A):=by
        show _=_;rw [jip,ENE.out];exact job _
       rw [ok.out] at HO;go_wp2;go_ret;exact ⟨⟨some ⟨g,0,none⟩,N,N⟩,rfl,⟨jaT HO.out.1 (by rw [HG.out];exact Nat.le_refl _),HO.out.2⟩,HGO.out⟩
end Go.Proofs.YtanpkdkenifmbaaGreatDoor
namespace Go.Proofs.YtanpkdkenifmbaaGreatDoor
open Go.RowKit
theorem jir (n:Nod) (A:At) (u:Sl) (ds:List Int) (w:World) (hno:NodeOk w n A) (hd:IsInts w u.v ds) (hl:ds.length≤1000) (hz : -9223372036854775808≤A.int ⟨#[97,120,105,115]⟩ 0) :
    Calls Tryz.prog 23 #[jaA n,.slice u.a u.n u.c] w fun e w'=>e=.returned (.int .i64 (((ja4 (A.int ⟨#[97,120,105,115]⟩ 0) ds.length).getD 0:Nat):Int))∧w.grownBy w' none:=by
     obtain ⟨ua,un,uc⟩:=u;obtain ⟨_,_,e1,-⟩:=hd.sl;simp only [Sl.v,Value.slice.injEq] at e1;obtain ⟨-,rfl,rfl⟩:=e1;have NI:Hid (∀ wx,w.grownBy wx none→Calls Tryz.prog 47 #[jaA n,.string ⟨#[97,120,105,115]⟩,.int .i64 0] wx fun e w'=>e=.returned (.int .i64 (A.int ⟨#[97,120,105,115]⟩ 0))∧wx.grownBy w' none):=fun wx hx=>jbK n A ⟨#[97,120,105,115]⟩ 0 wx (hno.more hx);obtain ⟨z,hzz⟩ : ∃ z,z=A.int ⟨#[97,120,105,115]⟩ 0:=⟨_,rfl⟩
     rw [← hzz] at NI hz ⊢;have AX:Hid (∀ wx,Calls Tryz.prog 42 #[.int .i64 z,.int .i64 ds.length] wx fun e w'=>e=.returned (.tuple #[.int .i64 ((ja4 z ds.length).getD 0:Nat),.bool (ja4 z ds.length).isSome])∧wx=w'):=fun wx=>jd8 z ds.length wx (by omega) hz;obtain ⟨op,nam,⟨ia,il,ic⟩,out,⟨ao,al,cap⟩⟩:=n;unfold jaA at NI ⊢;simp only at NI ⊢;obtain ⟨w0,hw0⟩ : ∃ w0,w0=w.alloc (.cells #[.string op,.string nam,.slice ia il ic,.string out,.slice ao al cap] 25):=⟨_,rfl⟩
     have hb0:=heap_alloc_new w (.cells #[.string op,.string nam,.slice ia il ic,.string out,.slice ao al cap] 25);obtain ⟨n0,n1,n2,n3,n4⟩:=jai (n:=⟨op,nam,⟨ia,il,ic⟩,out,⟨ao,al,cap⟩⟩) hb0;have g0:w.grownBy w0 none:=by rw [hw0];exact jab _ _
     have N1:=jac (NI.out w0 g0);have G0:=jac g0;clear hno hd hzz hb0 g0 NI;go_enter Tryz.func23,Tryz.ntmps23;go_wp2_with fail;rw [← hw0];clear hw0 n0 n1 n2 n3 n4;refine N1.out.mono ?_;rintro e w1 ⟨rfl,hg1⟩;have G1:=jac (jaa G0.out hg1);clear hg1;go_wp2_with fail;refine (AX.out w1).mono ?_;rintro e w2 ⟨rfl,rfl⟩;go_wp2;go_ret;exact ⟨rfl,G1.out⟩
theorem jgF (n : Nod) (A : At) (hop : n.op = ⟨#[71, 97, 116, 104, 101, 114]⟩) (u : Sl) (T0 T1 : Ten) (ds xs is idx : List Int) (nam0 : ByteArray) (vty : Int) (zv : Sl) (ax : Nat) (r : R (List Int)) (w : World) (hno : NodeOk w n A) (hv : TensIn w u.v [(T0, (ds, xs)), (T1, (is, idx))]) (hax : ja4 (A.int ⟨#[97, 120, 105, 115]⟩ 0) ds.length = some ax) (hzi : -9223372036854775808 ≤ A.int ⟨#[97, 120, 105, 115]⟩ 0) (hr6 : ds.length ≤ 6)
    (GA:∀ wx,w.grownBy wx none→Calls Tryz.prog 24 #[.agg #[.int .i64 T0.ty,.slice T0.dv.a T0.dv.n T0.dv.c,.slice T0.tv.a T0.tv.n T0.tv.c],.agg #[.int .i64 T1.ty,.slice T1.dv.a T1.dv.n T1.dv.c,.slice T1.tv.a T1.tv.n T1.tv.c],.slice zv.a zv.n zv.c,.int .i64 ax] wx (EvQ wx r)) :
    Calls Tryz.prog 9 #[jaA n,.slice u.a u.n u.c,.agg #[.string nam0,.int .i64 vty,.slice zv.a zv.n zv.c]] w (EvQ w r):=by
     obtain ⟨xa,xc,e1,p1,p2,p3⟩:=hv.vals.form;obtain ⟨ua,un,uc⟩:=u;simp only [Sl.v,List.map_cons,List.map_nil,List.length_cons,List.length_nil,Value.slice.injEq] at e1;obtain ⟨rfl,rfl,rfl⟩:=e1;obtain ⟨ub,uo,rfl⟩:=hv.vals.addr (k:=0) (by simp);obtain ⟨t0,t1,t2⟩:=hv.at 0 (by simp);obtain ⟨s0,s1,s2⟩:=hv.at 1 (by simp);have HH0:=jac (hv.has (T0,(ds,xs)) (by simp));have HH1:=jac (hv.has (T1,(is,idx)) (by simp));obtain ⟨tx,⟨xda,xdn,xdc⟩,⟨xta,xtn,xtc⟩⟩:=T0;obtain ⟨ty,⟨yda,ydn,ydc⟩,⟨yta,ytn,ytc⟩⟩:=T1;obtain ⟨za,zn,zc⟩:=zv;simp only [List.getElem_cons_zero,List.getElem_cons_succ,Nat.zero_mul,Nat.add_zero,Nat.one_mul] at t0 t1 t2 s0 s1 s2 HH0 HH1
     have MX:Hid (∀ wx,w.grownBy wx none→Calls Tryz.prog 23 #[jaA n,.slice xda xdn xdc] wx fun e w'=>e=.returned (.int .i64 (ax:Int))∧wx.grownBy w' none):=fun wx hx=>by
      have k:=jir n A ⟨xda,xdn,xdc⟩ ds wx (hno.more hx) (HH0.out.1.more hx) (by omega) hzi;rw [hax] at k;exact k
     have GA:=jac GA;simp only at GA;obtain ⟨op,nam,⟨ia,il,ic⟩,out,⟨ao,al,cap⟩⟩:=n;simp only at hop;subst hop;unfold jaA at MX ⊢;simp only at MX ⊢;obtain ⟨w0,hw0⟩ : ∃ w0,w0=(w.alloc (.cells #[.string ⟨#[71,97,116,104,101,114]⟩,.string nam,.slice ia il ic,.string out,.slice ao al cap] 25)).alloc (.cells #[.string nam0,.int .i64 vty,.slice za zn zc] 43):=⟨_,rfl⟩
     have g0:w.grownBy w0 none:=by rw [hw0];exact jaa (jab _ _) (jab _ _)
     have hbx:=jaJ w (.cells #[.string ⟨#[71,97,116,104,101,114]⟩,.string nam,.slice ia il ic,.string out,.slice ao al cap] 25) (.cells #[.string nam0,.int .i64 vty,.slice za zn zc] 43);rw [← hw0] at hbx;obtain ⟨n0,n1,n2,n3,n4⟩:=jai (n:=⟨⟨#[71,97,116,104,101,114]⟩,nam,⟨ia,il,ic⟩,out,⟨ao,al,cap⟩⟩) hbx.1;obtain ⟨v0,v1,v2⟩:=jaK hbx.2;have t0:=jad t0 g0;have t1:=jad t1 g0;have t2:=jad t2 g0;have s0:=jad s0 g0;have s1:=jad s1 g0;have s2:=jad s2 g0;have G0:=jac g0;have i0':(0:Int)<2:=by decide
     have i1':(1:Int)<2:=by decide
     clear hbx hv hno g0 p1 p2 p3 hax;rw [hw0] at n0;go_enter Tryz.func9,Tryz.ntmps9;go_wp2_with fail;rw [← hw0];rw [← hw0] at n0;clear hw0;refine wp_region_held_drew (S:=fun w'=>w0.grownBy w' none) (by kernel_rfl) (jaf (jae _)) (fun hHeld=>?_);refine tkC 0 ?_ (hv:=by intro wS hSw;go_simp;(try with_reducible rfl))
     try simp only [Act.put]
     refine tkC 1 ?_ (hv:=by intro wS hSw;go_simp;(try with_reducible rfl))
     try simp only [Act.put]
     refine tkC 2 ?_ (hv:=by intro wS hSw;have c0:=jad t0 hSw;have c1:=jad t1 hSw;have c2:=jad t2 hSw;go_simp;(try with_reducible rfl))
     try simp only [Act.put]
     refine tkC 3 ?_ (hv:=by intro wS hSw;go_simp;(try with_reducible rfl))
     try simp only [Act.put]
     refine tkC 4 ?_ (hv:=by intro wS hSw;go_simp;(try with_reducible rfl))
     try simp only [Act.put]
     refine tkC 5 ?_ (hv:=by intro wS hSw;have c0:=jad s0 hSw;have c1:=jad s1 hSw;have c2:=jad s2 hSw;go_simp;(try with_reducible rfl))
     try simp only [Act.put]
     refine tkC 6 ?_ (hv:=by intro wS hSw;go_simp;(try with_reducible rfl))
     try simp only [Act.put]
     refine tkC 7 ?_ (hv:=by intro wS hSw;have c0:=jad v2 hSw;go_simp;(try with_reducible rfl))
     try simp only [Act.put]
     refine tkC 8 ?_ (hv:=by intro wS hSw;have c0:=jad n0 hSw;have c1:=jad n1 hSw;have c2:=jad n2 hSw;have c3:=jad n3 hSw;have c4:=jad n4 hSw;go_simp;(try with_reducible rfl))
     try simp only [Act.put]
     refine tkC 9 ?_ (hv:=by intro wS hSw;go_simp;(try with_reducible rfl))
     try simp only [Act.put]
     refine tkC 10 ?_ (hv:=by intro wS hSw;go_simp;(try with_reducible rfl))
     try simp only [Act.put]
     refine tkC 11 ?_ (hv:=by intro wS hSw;go_simp;(try with_reducible rfl))
     try simp only [Act.put]
     refine tkC 12 ?_ (hv:=by intro wS hSw;have c0:=jad t1 hSw;go_simp;(try with_reducible rfl))
     try simp only [Act.put]
     refine rdA 13 fun K hK=>?_;go_simp;refine (MX.out w0.drew (jaf G0.out)).mono ?_;rintro e w1 ⟨rfl,hg1⟩;have g1:w0.grownBy w1 none:=jaa (jaf (jae _)) hg1;refine hK.out _ _ g1 (fun hHeld=>?_);clear hK K
     try simp only [Act.put]
     refine rdA 14 fun K hK=>?_;go_simp;refine (GA.out w1 (jaa G0.out g1)).mono ?_;intro e w3 hq;obtain ⟨hg3,hq⟩:=hq;have g3:w0.grownBy w3 none:=jaa g1 hg3
     cases r with
     | error c =>
      subst hq;refine hK.out _ _ g3 (fun hHeld=>?_);clear hK K;refine tkC 15 ?_ (hv:=by intro wS hSw;go_simp;(try with_reducible rfl))
      try simp only [Act.put]
      refine tkC 16 ?_ (hv:=by intro wS hSw;go_simp;(try with_reducible rfl))
      try simp only [Act.put]
      refine tkC 17 ?_ (hv:=by intro wS hSw;go_simp;(try with_reducible rfl))
      try simp only [Act.put]
      refine tkC 18 ?_ (hv:=by intro wS hSw;go_simp;(try with_reducible rfl))
      try simp only [Act.put]
      refine wpAnyH_done (by kernel_rfl) ?_ _;have HG:=jac (jaa G0.out g3);clear hg3 g3 hg1 g1 t0 t1 t2 s0 s1 s2 n0 n1 n2 n3 n4 v0 v1 v2 hHeld;go_simp;go_wp2;go_ret2;exact jng rfl HG.out
     | ok zs =>
      obtain ⟨⟨ra,rn,rc⟩,rfl,ho3⟩:=hq;refine hK.out _ _ g3 (fun hHeld=>?_);clear hK K;refine tkC 15 ?_ (hv:=by intro wS hSw;go_simp;(try with_reducible rfl))
      try simp only [Act.put]
      refine tkC 16 ?_ (hv:=by intro wS hSw;go_simp;(try with_reducible rfl))
      try simp only [Act.put]
      refine tkC 17 ?_ (hv:=by intro wS hSw;go_simp;(try with_reducible rfl))
      try simp only [Act.put]
      refine tkC 18 ?_ (hv:=by intro wS hSw;go_simp;(try with_reducible rfl))
      try simp only [Act.put]
      refine wpAnyH_done (by kernel_rfl) ?_ _;have HG:=jac (jaa G0.out g3);have HO:Hid (jbC w3 w.heap.size (.slice ra rn rc) zs):=⟨jaT ho3.1 (Nat.le_trans G0.out.size g1.size),ho3.2⟩
      clear ho3 hg3 g3 hg1 g1 t0 t1 t2 s0 s1 s2 n0 n1 n2 n3 n4 v0 v1 v2 hHeld;go_simp;go_wp2;go_ret2;exact jnh rfl HG.out ⟨⟨ra,rn,rc⟩,rfl,HO.out⟩
end Go.Proofs.YtanpkdkenifmbaaGreatDoor
namespace Go.Proofs.YtanpkdkenifmbaaGreatDoor
open Go.RowKit
theorem jeH (tx ty : Int) (dv xv iv zv : Sl) (yda : Option Addr) (ydn ydc : Nat) (ds xs idx : List Int) (ax A dim W : Nat) (w : World) (hd : IsInts w dv.v ds) (hx : IsInts w xv.v xs) (hi : IsInts w iv.v idx)
    (hax:ax<ds.length) (hdim:ds.getD ax 0=(dim:Int)) (hd1:dim≤65536) (hi5:idx.length≤65536) (hxp:0<xs.length) (hp0:jcj dim idx=false) :
    Calls Tryz.prog 24 #[.agg #[.int .i64 tx,.slice dv.a dv.n dv.c,.slice xv.a xv.n xv.c],.agg #[.int .i64 ty,.slice yda ydn ydc,.slice iv.a iv.n iv.c],.slice zv.a zv.n zv.c,.int .i64 ax] w (EvQ w (jdc xs W dim A idx)):=by
     obtain ⟨da,dn,dc⟩:=dv;obtain ⟨xa,xn,xc⟩:=xv;obtain ⟨ia,inn,ic⟩:=iv;obtain ⟨za,zn,zc⟩:=zv;obtain ⟨_,_,e1,c1,-⟩:=hd.sl;obtain ⟨_,_,e2,c2,-⟩:=hx.sl;obtain ⟨_,_,e3,c3,-⟩:=hi.sl;simp only [Sl.v,Value.slice.injEq] at e1 e2 e3;obtain ⟨-,rfl,rfl⟩:=e1;obtain ⟨-,rfl,rfl⟩:=e2;obtain ⟨-,rfl,rfl⟩:=e3;obtain ⟨db,df,rfl,hcd⟩:=hd.get (k:=0) (by omega);obtain ⟨xb,xf,rfl,-⟩:=hx.get (k:=0) hxp;simp only [Sl.v] at hd hx hi;have dcell:=hcd ax (by omega);rw [hdim] at dcell;have HD:=jac hd;have HX:=jac hx;have HI:=jac hi;obtain ⟨w0,hw0⟩ : ∃ w0,w0=(w.alloc (.cells #[.int .i64 tx,.slice (some ⟨db,df,none⟩) ds.length dc,.slice (some ⟨xb,xf,none⟩) xs.length xc] 32)).alloc (.cells #[.int .i64 ty,.slice yda ydn ydc,.slice ia idx.length ic] 32):=⟨_,rfl⟩
     have g0:w.grownBy w0 none:=by rw [hw0];exact jaa (jab _ _) (jab _ _)
     have hbx:=jaJ w (.cells #[.int .i64 tx,.slice (some ⟨db,df,none⟩) ds.length dc,.slice (some ⟨xb,xf,none⟩) xs.length xc] 32) (.cells #[.int .i64 ty,.slice yda ydn ydc,.slice ia idx.length ic] 32);rw [← hw0] at hbx;obtain ⟨x0,x1,x2⟩:=jaK hbx.1;obtain ⟨y0,y1,y2⟩:=jaK hbx.2;have BX:Hid (∀ wx,w0.grownBy wx none→wx.heap[w.heap.size]?=some (.cells #[.int .i64 tx,.slice (some ⟨db,df,none⟩) ds.length dc,.slice (some ⟨xb,xf,none⟩) xs.length xc] 32 (0,0))):=fun wx h=>jag hbx.1 h;have dcell:=jad dcell g0;have PL:=jac (jfJ ⟨ia,idx.length,ic⟩ idx dim w0 (hi.more g0) (by omega) (by omega));have j1:(ax:Int)<(ds.length:Int):=by omega
     have j1n:ax<ds.length:=by omega
     have G0:=jac g0;rw [hw0] at x0 x1 x2 y0 y1 y2 dcell;clear hd hx hi hcd hbx g0 c1 c2 c3 hdim;go_enter Tryz.func24,Tryz.ntmps24;go_wp2_with fail;rw [← hw0];rw [← hw0] at x0 x1 x2 y0 y1 y2 dcell;clear hw0;refine PL.out.mono ?_;rintro e w1 ⟨hg1,⟨hp,⟨pa,pn,pc⟩,rfl,ip⟩ | ⟨hp,rfl⟩⟩
     ·rw [hp0] at hp
      cases hp
     ·have ER:jdc xs W dim A idx=.error 8:=by unfold jdc;rw [hp];rfl
      have HE:=jac ER;have G1:=jac (jaa G0.out hg1);clear ER hp hg1;go_wp2;go_ret2;exact jng HE.out G1.out
end Go.Proofs.YtanpkdkenifmbaaGreatDoor
