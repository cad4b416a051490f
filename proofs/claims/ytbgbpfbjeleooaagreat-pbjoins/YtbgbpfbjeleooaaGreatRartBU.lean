/- A part. -/
import Derived.Test.YtbgbpfbjeleooaaGreatRartBS
import Derived.Test.YtbgbpfbjeleooaaGreatRartAU
import Derived.Test.YtbgbpfbjeleooaaGreatRartBT
import Derived.Test.YtbgbpfbjeleooaaGreatRartBK
import Derived.Test.YtbgbpfbjeleooaaGreatRartBL
import Derived.Test.YtbgbpfbjeleooaaGreatRartBO
set_option maxHeartbeats 25600000
set_option maxRecDepth 100000
namespace Go.Proofs.YtbgbpfbjeleooaaGreat.Pd
open Go.RowKit
theorem byt0:(⟨#[]⟩ : ByteArray)=ByteArray.empty:=rfl
theorem jhE (s:ByteArray):(s=⟨#[]⟩)↔s.size=0:=⟨fun e=>by rw [e];rfl,fun e=>ByteArray.ext (Array.eq_empty_of_size_eq_zero e)⟩
theorem jnL (a:Atr) (c:Cont) (w:World) (ha:Has w a c) (h:a.kind=1):Calls Tryz.prog 40 #[jb8 a] w fun e w'=>e=.returned (.bool (ja7 a c))∧w.grownBy w' none:=by
 obtain ⟨nm,kd,ff,ii,ss,ty,⟨da,dn,dc⟩,⟨ta,tn,tc⟩,⟨va,vn,vc⟩⟩:=a;obtain ⟨cd,ct,ci⟩:=c;unfold jb8;obtain ⟨hd,ht,hi⟩:=ha;have dn0:=jac (jb4 hd);have tn0:=jac (jb4 ht);have vn0:=jac (jb4 hi);simp only [Sl.v] at *;have HD:=jac hd;have HT:=jac ht;have HI:=jac hi;clear hd ht hi;obtain ⟨R0,hR0⟩ : ∃ r,r=ja7 ⟨nm,kd,ff,ii,ss,ty,⟨da,dn,dc⟩,⟨ta,tn,tc⟩,⟨va,vn,vc⟩⟩ ⟨cd,ct,ci⟩:=⟨_,rfl⟩
 rw [← hR0];have HR:=jac hR0;clear hR0;subst h;have hb:=heap_alloc_new w (.cells #[.string nm,.int .i64 1,.int .i64 ff,.int .i64 ii,.string ss,.int .i64 ty,.slice da dn dc,.slice ta tn tc,.slice va vn vc] 78);obtain ⟨⟨x0,x1,x2,x3,x4,x5,x6,x7,x8⟩,-⟩:=jau hb;have hbx:=jbl w (.cells #[.string nm,.int .i64 1,.int .i64 ff,.int .i64 ii,.string ss,.int .i64 ty,.slice da dn dc,.slice ta tn tc,.slice va vn vc] 78) (.cells #[.string nm,.int .i64 1,.int .i64 ff,.int .i64 0,.string ⟨#[]⟩,.int .i64 0,.slice none 0 0,.slice none 0 0,.slice none 0 0] 78);obtain ⟨⟨z0,z1,z2,z3,z4,z5,z6,z7,z8⟩,-⟩:=jau hbx.1;obtain ⟨⟨y0,y1,y2,y3,y4,y5,y6,y7,y8⟩,-⟩:=jau hbx.2;have G0:Hid (w.grownBy ((w.alloc (.cells #[.string nm,.int .i64 1,.int .i64 ff,.int .i64 ii,.string ss,.int .i64 ty,.slice da dn dc,.slice ta tn tc,.slice va vn vc] 78)).alloc (.cells #[.string nm,.int .i64 1,.int .i64 ff,.int .i64 0,.string ⟨#[]⟩,.int .i64 0,.slice none 0 0,.slice none 0 0,.slice none 0 0] 78)) none):=jac (jaa (jab _ _) (jab _ _));clear hbx hb;go_enter Tryz.func40,Tryz.ntmps40;go_wp2_with fail;have HA:Hid (((w.alloc (.cells #[.string nm,.int .i64 1,.int .i64 ff,.int .i64 ii,.string ss,.int .i64 ty,.slice da dn dc,.slice ta tn tc,.slice va vn vc] 78)).alloc (.cells #[.string nm,.int .i64 1,.int .i64 ff,.int .i64 0,.string ⟨#[]⟩,.int .i64 0,.slice none 0 0,.slice none 0 0,.slice none 0 0] 78)).heap[w.heap.size]?=some (.cells #[.string nm,.int .i64 1,.int .i64 ff,.int .i64 ii,.string ss,.int .i64 ty,.slice da dn dc,.slice ta tn tc,.slice va vn vc] 78 (0,0))):=jac (jbl w (.cells #[.string nm,.int .i64 1,.int .i64 ff,.int .i64 ii,.string ss,.int .i64 ty,.slice da dn dc,.slice ta tn tc,.slice va vn vc] 78) (.cells #[.string nm,.int .i64 1,.int .i64 ff,.int .i64 0,.string ⟨#[]⟩,.int .i64 0,.slice none 0 0,.slice none 0 0,.slice none 0 0] 78)).1;have HB:Hid (((w.alloc (.cells #[.string nm,.int .i64 1,.int .i64 ff,.int .i64 ii,.string ss,.int .i64 ty,.slice da dn dc,.slice ta tn tc,.slice va vn vc] 78)).alloc (.cells #[.string nm,.int .i64 1,.int .i64 ff,.int .i64 0,.string ⟨#[]⟩,.int .i64 0,.slice none 0 0,.slice none 0 0,.slice none 0 0] 78)).heap[w.heap.size+1]?=some (.cells #[.string nm,.int .i64 1,.int .i64 ff,.int .i64 0,.string ⟨#[]⟩,.int .i64 0,.slice none 0 0,.slice none 0 0,.slice none 0 0] 78 (0,0))):=jac (jbl w (.cells #[.string nm,.int .i64 1,.int .i64 ff,.int .i64 ii,.string ss,.int .i64 ty,.slice da dn dc,.slice ta tn tc,.slice va vn vc] 78) (.cells #[.string nm,.int .i64 1,.int .i64 ff,.int .i64 0,.string ⟨#[]⟩,.int .i64 0,.slice none 0 0,.slice none 0 0,.slice none 0 0] 78)).2;obtain ⟨wc,hwc⟩ : ∃ y9,y9=((w.alloc (.cells #[.string nm,.int .i64 1,.int .i64 ff,.int .i64 ii,.string ss,.int .i64 ty,.slice da dn dc,.slice ta tn tc,.slice va vn vc] 78)).alloc (.cells #[.string nm,.int .i64 1,.int .i64 ff,.int .i64 0,.string ⟨#[]⟩,.int .i64 0,.slice none 0 0,.slice none 0 0,.slice none 0 0] 78)):=⟨_,rfl⟩
 rw [← hwc] at HA HB G0 ⊢;clear hwc x0 x1 x2 x3 x4 x5 x6 x7 x8 z0 z1 z2 z3 z4 z5 z6 z7 z8 y0 y1 y2 y3 y4 y5 y6 y7 y8;have CK:=jac (jjN ff wc);refine CK.out.mono ?_;rintro e w1 ⟨rfl,rfl⟩;have hg:=jae w1;have HA1:=jac (jag HA.out hg);have HB1:=jac (jag HB.out hg);have G1:=jac (jaa G0.out hg);obtain ⟨⟨x0,x1,x2,x3,x4,x5,x6,x7,x8⟩,-⟩:=jau HA1.out;obtain ⟨⟨y0,y1,y2,y3,y4,y5,y6,y7,y8⟩,-⟩:=jau HB1.out;clear HA HB hg
 cases hc:chk 1 ff with
 | true =>
  by_cases hl:nm.size≤100
  ·have dl:decide ((nm.size:Int)≤100)=true:=decide_eq_true (by omega);have SE:=jac (jcR nm 1 ff ii ty ff 0 0 ss ⟨#[]⟩ da ta va none none none dn dc tn tc vn vc 0 0 0 0 0 0 cd ct ci [] [] [] w1 ⟨HD.out.more G1.out,HT.out.more G1.out,HI.out.more G1.out⟩ ⟨jaT _,jaT _,jaT _⟩);have E:Hid (R0=(decide (ff=ff)&&(decide (ii=0)&&(decide (ss=⟨#[]⟩)&&((decide (ty=0)&&(decide (cd=[])&&decide (ct=[])))&&decide (ci=[])))))):=by show _=_;rw [HR.out,Bool.eq_iff_iff];have q1:=dn0.out;have q2:=tn0.out;have q3:=vn0.out;simp only [ja7,jcc,jb9,jcg,jas,jhE,q1,q2,q3,decide_true,Bool.and_eq_true,decide_eq_true_eq];simp [*];try grind
   rw [← E.out] at SE;clear HR;go_wp2_with fail;refine SE.out.mono ?_;rintro e w2 ⟨rfl,hg⟩;have G2:=jac (jaa G1.out hg);go_wp2;go_ret;exact ⟨rfl,G2.out⟩
  ·have dl:decide ((nm.size:Int)≤100)=false:=decide_eq_false (by omega);have E:Hid (R0=false):=by show _=_;rw [HR.out,Bool.eq_false_iff];intro hh;simp only [ja7,jcc,jb9,jcg,jas,Bool.and_eq_true,decide_eq_true_eq] at hh;first | (simp at hh;omega) | (simp [hc] at hh;done)
   clear HR;go_wp2_with fail;go_ret;exact ⟨congrArg (fun b=>Ending.returned (Value.bool b)) E.out.symm,G1.out⟩
 | false =>
  have E:Hid (R0=false):=by show _=_;rw [HR.out,Bool.eq_false_iff];intro hh;simp only [ja7,jcc,jb9,jcg,jas,Bool.and_eq_true,decide_eq_true_eq] at hh;first | (simp at hh;omega) | (simp [hc] at hh;done)
  clear HR;go_wp2_with fail;go_ret;exact ⟨congrArg (fun b=>Ending.returned (Value.bool b)) E.out.symm,G1.out⟩
theorem jnM (a:Atr) (c:Cont) (w:World) (ha:Has w a c) (h:a.kind=2):Calls Tryz.prog 40 #[jb8 a] w fun e w'=>e=.returned (.bool (ja7 a c))∧w.grownBy w' none:=by
 obtain ⟨nm,kd,ff,ii,ss,ty,⟨da,dn,dc⟩,⟨ta,tn,tc⟩,⟨va,vn,vc⟩⟩:=a;obtain ⟨cd,ct,ci⟩:=c;unfold jb8;obtain ⟨hd,ht,hi⟩:=ha;have dn0:=jac (jb4 hd);have tn0:=jac (jb4 ht);have vn0:=jac (jb4 hi);simp only [Sl.v] at *;have HD:=jac hd;have HT:=jac ht;have HI:=jac hi;clear hd ht hi;obtain ⟨R0,hR0⟩ : ∃ r,r=ja7 ⟨nm,kd,ff,ii,ss,ty,⟨da,dn,dc⟩,⟨ta,tn,tc⟩,⟨va,vn,vc⟩⟩ ⟨cd,ct,ci⟩:=⟨_,rfl⟩
 rw [← hR0];have HR:=jac hR0;clear hR0;subst h;have hb:=heap_alloc_new w (.cells #[.string nm,.int .i64 2,.int .i64 ff,.int .i64 ii,.string ss,.int .i64 ty,.slice da dn dc,.slice ta tn tc,.slice va vn vc] 78);obtain ⟨⟨x0,x1,x2,x3,x4,x5,x6,x7,x8⟩,-⟩:=jau hb;have hbx:=jbl w (.cells #[.string nm,.int .i64 2,.int .i64 ff,.int .i64 ii,.string ss,.int .i64 ty,.slice da dn dc,.slice ta tn tc,.slice va vn vc] 78) (.cells #[.string nm,.int .i64 2,.int .i64 0,.int .i64 ii,.string ⟨#[]⟩,.int .i64 0,.slice none 0 0,.slice none 0 0,.slice none 0 0] 78);obtain ⟨⟨z0,z1,z2,z3,z4,z5,z6,z7,z8⟩,-⟩:=jau hbx.1;obtain ⟨⟨y0,y1,y2,y3,y4,y5,y6,y7,y8⟩,-⟩:=jau hbx.2;have G0:Hid (w.grownBy ((w.alloc (.cells #[.string nm,.int .i64 2,.int .i64 ff,.int .i64 ii,.string ss,.int .i64 ty,.slice da dn dc,.slice ta tn tc,.slice va vn vc] 78)).alloc (.cells #[.string nm,.int .i64 2,.int .i64 0,.int .i64 ii,.string ⟨#[]⟩,.int .i64 0,.slice none 0 0,.slice none 0 0,.slice none 0 0] 78)) none):=jac (jaa (jab _ _) (jab _ _));clear hbx hb
 by_cases hl:nm.size≤100
 ·have dl:decide ((nm.size:Int)≤100)=true:=decide_eq_true (by omega);have SE:=jac (jcR nm 2 ff ii ty 0 ii 0 ss ⟨#[]⟩ da ta va none none none dn dc tn tc vn vc 0 0 0 0 0 0 cd ct ci [] [] [] ((w.alloc (.cells #[.string nm,.int .i64 2,.int .i64 ff,.int .i64 ii,.string ss,.int .i64 ty,.slice da dn dc,.slice ta tn tc,.slice va vn vc] 78)).alloc (.cells #[.string nm,.int .i64 2,.int .i64 0,.int .i64 ii,.string ⟨#[]⟩,.int .i64 0,.slice none 0 0,.slice none 0 0,.slice none 0 0] 78)) ⟨HD.out.more G0.out,HT.out.more G0.out,HI.out.more G0.out⟩ ⟨jaT _,jaT _,jaT _⟩);have E:Hid (R0=(decide (ff=0)&&(decide (ii=ii)&&(decide (ss=⟨#[]⟩)&&((decide (ty=0)&&(decide (cd=[])&&decide (ct=[])))&&decide (ci=[])))))):=by show _=_;rw [HR.out,Bool.eq_iff_iff];have q1:=dn0.out;have q2:=tn0.out;have q3:=vn0.out;simp only [ja7,jcc,jb9,jcg,jas,jhE,q1,q2,q3,decide_true,Bool.and_eq_true,decide_eq_true_eq];simp [*];try grind
  rw [← E.out] at SE;clear HR;go_enter Tryz.func40,Tryz.ntmps40;go_wp2_with fail;refine SE.out.mono ?_;rintro e w2 ⟨rfl,hg⟩;have G2:=jac (jaa G0.out hg);go_wp2;go_ret;exact ⟨rfl,G2.out⟩
 ·have dl:decide ((nm.size:Int)≤100)=false:=decide_eq_false (by omega);have E:Hid (R0=false):=by show _=_;rw [HR.out,Bool.eq_false_iff];intro hh;simp only [ja7,jcc,jb9,jcg,jas,Bool.and_eq_true,decide_eq_true_eq] at hh;first | (simp at hh;omega) | (simp [hc] at hh;done)
  clear HR;go_enter Tryz.func40,Tryz.ntmps40;go_wp2_with fail;go_ret;exact ⟨congrArg (fun b=>Ending.returned (Value.bool b)) E.out.symm,G0.out⟩
theorem jnN (a:Atr) (c:Cont) (w:World) (ha:Has w a c) (h:a.kind=3):Calls Tryz.prog 40 #[jb8 a] w fun e w'=>e=.returned (.bool (ja7 a c))∧w.grownBy w' none:=by
 obtain ⟨nm,kd,ff,ii,ss,ty,⟨da,dn,dc⟩,⟨ta,tn,tc⟩,⟨va,vn,vc⟩⟩:=a;obtain ⟨cd,ct,ci⟩:=c;unfold jb8;obtain ⟨hd,ht,hi⟩:=ha;have dn0:=jac (jb4 hd);have tn0:=jac (jb4 ht);have vn0:=jac (jb4 hi);simp only [Sl.v] at *;have HD:=jac hd;have HT:=jac ht;have HI:=jac hi;clear hd ht hi;obtain ⟨R0,hR0⟩ : ∃ r,r=ja7 ⟨nm,kd,ff,ii,ss,ty,⟨da,dn,dc⟩,⟨ta,tn,tc⟩,⟨va,vn,vc⟩⟩ ⟨cd,ct,ci⟩:=⟨_,rfl⟩
 rw [← hR0];have HR:=jac hR0;clear hR0;subst h;have hb:=heap_alloc_new w (.cells #[.string nm,.int .i64 3,.int .i64 ff,.int .i64 ii,.string ss,.int .i64 ty,.slice da dn dc,.slice ta tn tc,.slice va vn vc] 78);obtain ⟨⟨x0,x1,x2,x3,x4,x5,x6,x7,x8⟩,-⟩:=jau hb;have hbx:=jbl w (.cells #[.string nm,.int .i64 3,.int .i64 ff,.int .i64 ii,.string ss,.int .i64 ty,.slice da dn dc,.slice ta tn tc,.slice va vn vc] 78) (.cells #[.string nm,.int .i64 3,.int .i64 0,.int .i64 0,.string ss,.int .i64 0,.slice none 0 0,.slice none 0 0,.slice none 0 0] 78);obtain ⟨⟨z0,z1,z2,z3,z4,z5,z6,z7,z8⟩,-⟩:=jau hbx.1;obtain ⟨⟨y0,y1,y2,y3,y4,y5,y6,y7,y8⟩,-⟩:=jau hbx.2;have G0:Hid (w.grownBy ((w.alloc (.cells #[.string nm,.int .i64 3,.int .i64 ff,.int .i64 ii,.string ss,.int .i64 ty,.slice da dn dc,.slice ta tn tc,.slice va vn vc] 78)).alloc (.cells #[.string nm,.int .i64 3,.int .i64 0,.int .i64 0,.string ss,.int .i64 0,.slice none 0 0,.slice none 0 0,.slice none 0 0] 78)) none):=jac (jaa (jab _ _) (jab _ _));clear hbx hb
 by_cases hc:ss.size≤100
 ·have dc':decide ((ss.size:Int)≤100)=true:=decide_eq_true (by omega)
  by_cases hl:nm.size≤100
  ·have dl:decide ((nm.size:Int)≤100)=true:=decide_eq_true (by omega);have SE:=jac (jcR nm 3 ff ii ty 0 0 0 ss ss da ta va none none none dn dc tn tc vn vc 0 0 0 0 0 0 cd ct ci [] [] [] ((w.alloc (.cells #[.string nm,.int .i64 3,.int .i64 ff,.int .i64 ii,.string ss,.int .i64 ty,.slice da dn dc,.slice ta tn tc,.slice va vn vc] 78)).alloc (.cells #[.string nm,.int .i64 3,.int .i64 0,.int .i64 0,.string ss,.int .i64 0,.slice none 0 0,.slice none 0 0,.slice none 0 0] 78)) ⟨HD.out.more G0.out,HT.out.more G0.out,HI.out.more G0.out⟩ ⟨jaT _,jaT _,jaT _⟩);have E:Hid (R0=(decide (ff=0)&&(decide (ii=0)&&(decide (ss=ss)&&((decide (ty=0)&&(decide (cd=[])&&decide (ct=[])))&&decide (ci=[])))))):=by show _=_;rw [HR.out,Bool.eq_iff_iff];have q1:=dn0.out;have q2:=tn0.out;have q3:=vn0.out;simp only [ja7,jcc,jb9,jcg,jas,q1,q2,q3,decide_true,Bool.and_eq_true,decide_eq_true_eq];simp [*,byt0];try grind
   rw [← E.out] at SE;clear HR;go_enter Tryz.func40,Tryz.ntmps40;go_wp2_with fail;refine SE.out.mono ?_;rintro e w2 ⟨rfl,hg⟩;have G2:=jac (jaa G0.out hg);go_wp2;go_ret;exact ⟨rfl,G2.out⟩
  ·have dl:decide ((nm.size:Int)≤100)=false:=decide_eq_false (by omega);have E:Hid (R0=false):=by show _=_;rw [HR.out,Bool.eq_false_iff];intro hh;simp only [ja7,jcc,jb9,jcg,jas,Bool.and_eq_true,decide_eq_true_eq] at hh;first | (simp at hh;omega) | (simp [hc] at hh;done)
   clear HR;go_enter Tryz.func40,Tryz.ntmps40;go_wp2_with fail;go_ret;exact ⟨congrArg (fun b=>Ending.returned (Value.bool b)) E.out.symm,G0.out⟩
 ·have dc':decide ((ss.size:Int)≤100)=false:=decide_eq_false (by omega);have E:Hid (R0=false):=by show _=_;rw [HR.out,Bool.eq_false_iff];intro hh;simp only [ja7,jcc,jb9,jcg,jas,Bool.and_eq_true,decide_eq_true_eq] at hh;first | (simp at hh;omega) | (simp [hc] at hh;done)
  clear HR;go_enter Tryz.func40,Tryz.ntmps40;go_wp2_with fail;go_ret;exact ⟨congrArg (fun b=>Ending.returned (Value.bool b)) E.out.symm,G0.out⟩
theorem jnO (a:Atr) (c:Cont) (w:World) (ha:Has w a c) (h:a.kind=4):Calls Tryz.prog 40 #[jb8 a] w fun e w'=>e=.returned (.bool (ja7 a c))∧w.grownBy w' none:=by
 obtain ⟨nm,kd,ff,ii,ss,ty,⟨da,dn,dc⟩,⟨ta,tn,tc⟩,⟨va,vn,vc⟩⟩:=a;obtain ⟨cd,ct,ci⟩:=c;unfold jb8;obtain ⟨hd,ht,hi⟩:=ha;have dn0:=jac (jb4 hd);have tn0:=jac (jb4 ht);have vn0:=jac (jb4 hi);simp only [Sl.v] at *;have HD:=jac hd;have HT:=jac ht;have HI:=jac hi;clear hd ht hi;obtain ⟨R0,hR0⟩ : ∃ r,r=ja7 ⟨nm,kd,ff,ii,ss,ty,⟨da,dn,dc⟩,⟨ta,tn,tc⟩,⟨va,vn,vc⟩⟩ ⟨cd,ct,ci⟩:=⟨_,rfl⟩
 rw [← hR0];have HR:=jac hR0;clear hR0;subst h;have hb:=heap_alloc_new w (.cells #[.string nm,.int .i64 4,.int .i64 ff,.int .i64 ii,.string ss,.int .i64 ty,.slice da dn dc,.slice ta tn tc,.slice va vn vc] 78);obtain ⟨⟨x0,x1,x2,x3,x4,x5,x6,x7,x8⟩,-⟩:=jau hb;have hbx:=jbl w (.cells #[.string nm,.int .i64 4,.int .i64 ff,.int .i64 ii,.string ss,.int .i64 ty,.slice da dn dc,.slice ta tn tc,.slice va vn vc] 78) (.cells #[.string nm,.int .i64 4,.int .i64 0,.int .i64 0,.string ⟨#[]⟩,.int .i64 ty,.slice da dn dc,.slice ta tn tc,.slice none 0 0] 78);obtain ⟨⟨z0,z1,z2,z3,z4,z5,z6,z7,z8⟩,-⟩:=jau hbx.1;obtain ⟨⟨y0,y1,y2,y3,y4,y5,y6,y7,y8⟩,-⟩:=jau hbx.2;have G0:Hid (w.grownBy ((w.alloc (.cells #[.string nm,.int .i64 4,.int .i64 ff,.int .i64 ii,.string ss,.int .i64 ty,.slice da dn dc,.slice ta tn tc,.slice va vn vc] 78)).alloc (.cells #[.string nm,.int .i64 4,.int .i64 0,.int .i64 0,.string ⟨#[]⟩,.int .i64 ty,.slice da dn dc,.slice ta tn tc,.slice none 0 0] 78)) none):=jac (jaa (jab _ _) (jab _ _));clear hbx hb;go_enter Tryz.func40,Tryz.ntmps40;go_wp2_with fail;have HA:Hid (((w.alloc (.cells #[.string nm,.int .i64 4,.int .i64 ff,.int .i64 ii,.string ss,.int .i64 ty,.slice da dn dc,.slice ta tn tc,.slice va vn vc] 78)).alloc (.cells #[.string nm,.int .i64 4,.int .i64 0,.int .i64 0,.string ⟨#[]⟩,.int .i64 ty,.slice da dn dc,.slice ta tn tc,.slice none 0 0] 78)).heap[w.heap.size]?=some (.cells #[.string nm,.int .i64 4,.int .i64 ff,.int .i64 ii,.string ss,.int .i64 ty,.slice da dn dc,.slice ta tn tc,.slice va vn vc] 78 (0,0))):=jac (jbl w (.cells #[.string nm,.int .i64 4,.int .i64 ff,.int .i64 ii,.string ss,.int .i64 ty,.slice da dn dc,.slice ta tn tc,.slice va vn vc] 78) (.cells #[.string nm,.int .i64 4,.int .i64 0,.int .i64 0,.string ⟨#[]⟩,.int .i64 ty,.slice da dn dc,.slice ta tn tc,.slice none 0 0] 78)).1;have HB:Hid (((w.alloc (.cells #[.string nm,.int .i64 4,.int .i64 ff,.int .i64 ii,.string ss,.int .i64 ty,.slice da dn dc,.slice ta tn tc,.slice va vn vc] 78)).alloc (.cells #[.string nm,.int .i64 4,.int .i64 0,.int .i64 0,.string ⟨#[]⟩,.int .i64 ty,.slice da dn dc,.slice ta tn tc,.slice none 0 0] 78)).heap[w.heap.size+1]?=some (.cells #[.string nm,.int .i64 4,.int .i64 0,.int .i64 0,.string ⟨#[]⟩,.int .i64 ty,.slice da dn dc,.slice ta tn tc,.slice none 0 0] 78 (0,0))):=jac (jbl w (.cells #[.string nm,.int .i64 4,.int .i64 ff,.int .i64 ii,.string ss,.int .i64 ty,.slice da dn dc,.slice ta tn tc,.slice va vn vc] 78) (.cells #[.string nm,.int .i64 4,.int .i64 0,.int .i64 0,.string ⟨#[]⟩,.int .i64 ty,.slice da dn dc,.slice ta tn tc,.slice none 0 0] 78)).2;obtain ⟨wc,hwc⟩ : ∃ y9,y9=((w.alloc (.cells #[.string nm,.int .i64 4,.int .i64 ff,.int .i64 ii,.string ss,.int .i64 ty,.slice da dn dc,.slice ta tn tc,.slice va vn vc] 78)).alloc (.cells #[.string nm,.int .i64 4,.int .i64 0,.int .i64 0,.string ⟨#[]⟩,.int .i64 ty,.slice da dn dc,.slice ta tn tc,.slice none 0 0] 78)):=⟨_,rfl⟩
 rw [← hwc] at HA HB G0 ⊢;clear hwc x0 x1 x2 x3 x4 x5 x6 x7 x8 z0 z1 z2 z3 z4 z5 z6 z7 z8 y0 y1 y2 y3 y4 y5 y6 y7 y8;have CK:=jac (jfH ty (.slice da dn dc) (.slice ta tn tc) cd ct wc (jaj.more HD.out G0.out) (jaj.more HT.out G0.out));refine CK.out.mono ?_;rintro e w1 ⟨rfl,hg⟩;have HA1:=jac (jag HA.out hg);have HB1:=jac (jag HB.out hg);have G1:=jac (jaa G0.out hg);obtain ⟨⟨x0,x1,x2,x3,x4,x5,x6,x7,x8⟩,-⟩:=jau HA1.out;obtain ⟨⟨y0,y1,y2,y3,y4,y5,y6,y7,y8⟩,-⟩:=jau HB1.out;clear HA HB hg;clear CK;obtain ⟨pe,hpe⟩ : ∃ x,x=pbE ty cd ct:=⟨_,rfl⟩
 rw [← hpe]
 by_cases hc:pe=0
 ·have HC:Hid (pbE ty cd ct=0):=jac (by rw [← hpe];exact hc);subst hc;clear hpe
  by_cases hl:nm.size≤100
  ·have dl:decide ((nm.size:Int)≤100)=true:=decide_eq_true (by omega);have SE:=jac (jcR nm 4 ff ii ty 0 0 ty ss ⟨#[]⟩ da ta va da ta none dn dc tn tc vn vc dn dc tn tc 0 0 cd ct ci cd ct [] w1 ⟨HD.out.more G1.out,HT.out.more G1.out,HI.out.more G1.out⟩ ⟨HD.out.more G1.out,HT.out.more G1.out,jaT _⟩);have E:Hid (R0=(decide (ff=0)&&(decide (ii=0)&&(decide (ss=⟨#[]⟩)&&((decide (ty=ty)&&(decide (cd=cd)&&decide (ct=ct)))&&decide (ci=[])))))):=by show _=_;rw [HR.out,Bool.eq_iff_iff];have q1:=dn0.out;have q2:=tn0.out;have q3:=vn0.out;have q4:=HC.out;simp only [ja7,jcc,jb9,jcg,jas,jhE,q1,q2,q3,decide_true,Bool.and_eq_true,decide_eq_true_eq];simp [*];try grind
   rw [← E.out] at SE;clear HR;go_wp2_with fail;refine SE.out.mono ?_;rintro e w2 ⟨rfl,hg⟩;have G2:=jac (jaa G1.out hg);go_wp2;go_ret;exact ⟨rfl,G2.out⟩
  ·have dl:decide ((nm.size:Int)≤100)=false:=decide_eq_false (by omega);have E:Hid (R0=false):=by show _=_;rw [HR.out,Bool.eq_false_iff];intro hh;simp only [ja7,jcc,jb9,jcg,jas,Bool.and_eq_true,decide_eq_true_eq] at hh;first | (simp at hh;omega) | (simp [hc] at hh;done)
   clear HR;go_wp2_with fail;go_ret;exact ⟨congrArg (fun b=>Ending.returned (Value.bool b)) E.out.symm,G1.out⟩
 ·have HC:Hid (¬ pbE ty cd ct=0):=jac (by rw [← hpe];exact hc);have hc3:(pe==0)=false:=by simpa using hc
  clear hpe;have E:Hid (R0=false):=by show _=_;rw [HR.out,Bool.eq_false_iff];intro hh;simp only [ja7,jcc,jb9,jcg,jas,Bool.and_eq_true,decide_eq_true_eq] at hh;simp at hh;exact HC.out hh.1.1
  clear HR;go_wp2_with fail;go_ret;exact ⟨congrArg (fun b=>Ending.returned (Value.bool b)) E.out.symm,G1.out⟩
theorem jnP (a:Atr) (c:Cont) (w:World) (ha:Has w a c) (h:a.kind=7):Calls Tryz.prog 40 #[jb8 a] w fun e w'=>e=.returned (.bool (ja7 a c))∧w.grownBy w' none:=by
 obtain ⟨nm,kd,ff,ii,ss,ty,⟨da,dn,dc⟩,⟨ta,tn,tc⟩,⟨va,vn,vc⟩⟩:=a;obtain ⟨cd,ct,ci⟩:=c;unfold jb8;obtain ⟨hd,ht,hi⟩:=ha;have dn0:=jac (jb4 hd);have tn0:=jac (jb4 ht);have vn0:=jac (jb4 hi);simp only [Sl.v] at *;have HD:=jac hd;have HT:=jac ht;have HI:=jac hi;clear hd ht hi;obtain ⟨R0,hR0⟩ : ∃ r,r=ja7 ⟨nm,kd,ff,ii,ss,ty,⟨da,dn,dc⟩,⟨ta,tn,tc⟩,⟨va,vn,vc⟩⟩ ⟨cd,ct,ci⟩:=⟨_,rfl⟩
 rw [← hR0];have HR:=jac hR0;clear hR0;subst h;have hb:=heap_alloc_new w (.cells #[.string nm,.int .i64 7,.int .i64 ff,.int .i64 ii,.string ss,.int .i64 ty,.slice da dn dc,.slice ta tn tc,.slice va vn vc] 78);obtain ⟨⟨x0,x1,x2,x3,x4,x5,x6,x7,x8⟩,-⟩:=jau hb;have hbx:=jbl w (.cells #[.string nm,.int .i64 7,.int .i64 ff,.int .i64 ii,.string ss,.int .i64 ty,.slice da dn dc,.slice ta tn tc,.slice va vn vc] 78) (.cells #[.string nm,.int .i64 7,.int .i64 0,.int .i64 0,.string ⟨#[]⟩,.int .i64 0,.slice none 0 0,.slice none 0 0,.slice va vn vc] 78);obtain ⟨⟨z0,z1,z2,z3,z4,z5,z6,z7,z8⟩,-⟩:=jau hbx.1;obtain ⟨⟨y0,y1,y2,y3,y4,y5,y6,y7,y8⟩,-⟩:=jau hbx.2;have G0:Hid (w.grownBy ((w.alloc (.cells #[.string nm,.int .i64 7,.int .i64 ff,.int .i64 ii,.string ss,.int .i64 ty,.slice da dn dc,.slice ta tn tc,.slice va vn vc] 78)).alloc (.cells #[.string nm,.int .i64 7,.int .i64 0,.int .i64 0,.string ⟨#[]⟩,.int .i64 0,.slice none 0 0,.slice none 0 0,.slice va vn vc] 78)) none):=jac (jaa (jab _ _) (jab _ _));clear hbx hb
 by_cases hc:vn≤20
 ·have dc':decide ((vn:Int)≤20)=true:=decide_eq_true (by omega)
  by_cases hl:nm.size≤100
  ·have dl:decide ((nm.size:Int)≤100)=true:=decide_eq_true (by omega);have SE:=jac (jcR nm 7 ff ii ty 0 0 0 ss ⟨#[]⟩ da ta va none none va dn dc tn tc vn vc 0 0 0 0 vn vc cd ct ci [] [] ci ((w.alloc (.cells #[.string nm,.int .i64 7,.int .i64 ff,.int .i64 ii,.string ss,.int .i64 ty,.slice da dn dc,.slice ta tn tc,.slice va vn vc] 78)).alloc (.cells #[.string nm,.int .i64 7,.int .i64 0,.int .i64 0,.string ⟨#[]⟩,.int .i64 0,.slice none 0 0,.slice none 0 0,.slice va vn vc] 78)) ⟨HD.out.more G0.out,HT.out.more G0.out,HI.out.more G0.out⟩ ⟨jaT _,jaT _,HI.out.more G0.out⟩);have E:Hid (R0=(decide (ff=0)&&(decide (ii=0)&&(decide (ss=⟨#[]⟩)&&((decide (ty=0)&&(decide (cd=[])&&decide (ct=[])))&&decide (ci=ci)))))):=by show _=_;rw [HR.out,Bool.eq_iff_iff];have q1:=dn0.out;have q2:=tn0.out;have q3:=vn0.out;simp only [ja7,jcc,jb9,jcg,jas,jhE,q1,q2,q3,decide_true,Bool.and_eq_true,decide_eq_true_eq];simp [*];try grind
   rw [← E.out] at SE;clear HR;go_enter Tryz.func40,Tryz.ntmps40;go_wp2_with fail;refine SE.out.mono ?_;rintro e w2 ⟨rfl,hg⟩;have G2:=jac (jaa G0.out hg);go_wp2;go_ret;exact ⟨rfl,G2.out⟩
  ·have dl:decide ((nm.size:Int)≤100)=false:=decide_eq_false (by omega);have E:Hid (R0=false):=by show _=_;rw [HR.out,Bool.eq_false_iff];intro hh;simp only [ja7,jcc,jb9,jcg,jas,Bool.and_eq_true,decide_eq_true_eq] at hh;first | (simp at hh;omega) | (simp [hc] at hh;done)
   clear HR;go_enter Tryz.func40,Tryz.ntmps40;go_wp2_with fail;go_ret;exact ⟨congrArg (fun b=>Ending.returned (Value.bool b)) E.out.symm,G0.out⟩
 ·have dc':decide ((vn:Int)≤20)=false:=decide_eq_false (by omega);have E:Hid (R0=false):=by show _=_;rw [HR.out,Bool.eq_false_iff];intro hh;simp only [ja7,jcc,jb9,jcg,jas,Bool.and_eq_true,decide_eq_true_eq] at hh;first | (simp at hh;omega) | (simp [hc] at hh;done)
  clear HR;go_enter Tryz.func40,Tryz.ntmps40;go_wp2_with fail;go_ret;exact ⟨congrArg (fun b=>Ending.returned (Value.bool b)) E.out.symm,G0.out⟩
theorem jnQ (a:Atr) (c:Cont) (w:World) (k1:a.kind≠1) (k2:a.kind≠2) (k3:a.kind≠3) (k4:a.kind≠4) (k7:a.kind≠7):Calls Tryz.prog 40 #[jb8 a] w fun e w'=>e=.returned (.bool (ja7 a c))∧w.grownBy w' none:=by
 obtain ⟨nm,kd,ff,ii,ss,ty,⟨da,dn,dc⟩,⟨ta,tn,tc⟩,⟨va,vn,vc⟩⟩:=a;unfold jb8;have E:Hid (ja7 ⟨nm,kd,ff,ii,ss,ty,⟨da,dn,dc⟩,⟨ta,tn,tc⟩,⟨va,vn,vc⟩⟩ c=false):=by show _=_;unfold ja7 jcc;simp only at *;rw [if_neg k1,if_neg k2,if_neg k3,if_neg k4,if_neg k7];rfl
 rw [E.out];simp only at k1 k2 k3 k4 k7 ⊢;have d1:(kd==1)=false:=by simpa using k1
 have d2:(kd==2)=false:=by simpa using k2
 have d3:(kd==3)=false:=by simpa using k3
 have d4:(kd==4)=false:=by simpa using k4
 have d7:(kd==7)=false:=by simpa using k7
 clear k1 k2 k3 k4 k7 E;obtain ⟨⟨x0,x1,x2,x3,x4,x5,x6,x7,x8⟩,-⟩:=jau (heap_alloc_new w (.cells #[.string nm,.int .i64 kd,.int .i64 ff,.int .i64 ii,.string ss,.int .i64 ty,.slice da dn dc,.slice ta tn tc,.slice va vn vc] 78));have G0:Hid (w.grownBy ((w.alloc (.cells #[.string nm,.int .i64 kd,.int .i64 ff,.int .i64 ii,.string ss,.int .i64 ty,.slice da dn dc,.slice ta tn tc,.slice va vn vc] 78)).alloc (.cells #[.string nm,.int .i64 kd,.int .i64 0,.int .i64 0,.string ⟨#[]⟩,.int .i64 0,.slice none 0 0,.slice none 0 0,.slice none 0 0] 78)) none):=jac (jaa (jab _ _) (jab _ _));go_enter Tryz.func40,Tryz.ntmps40;go_wp2_with fail;go_ret;exact ⟨rfl,G0.out⟩
theorem jhF (a:Atr) (c:Cont) (w:World) (ha:Has w a c):Calls Tryz.prog 40 #[jb8 a] w fun e w'=>e=.returned (.bool (ja7 a c))∧w.grownBy w' none:=by
 by_cases k1:a.kind=1
 ·exact jnL a c w ha k1
 by_cases k2:a.kind=2
 ·exact jnM a c w ha k2
 by_cases k3:a.kind=3
 ·exact jnN a c w ha k3
 by_cases k4:a.kind=4
 ·exact jnO a c w ha k4
 by_cases k7:a.kind=7
 ·exact jnP a c w ha k7
 ·exact jnQ a c w k1 k2 k3 k4 k7
end Go.Proofs.YtbgbpfbjeleooaaGreat.Pd
namespace Go.Proofs.YtbgbpfbjeleooaaGreat.Pd
open Go.RowKit
theorem jkl {a b:World} (h:a.grownBy b none) (row:Option Nat):a.grownBy b row:=⟨h.os,h.tape,h.output,h.size,fun i hi _=>h.block i hi (by simp)⟩
theorem jnR {α : Type} {o : Oper} {a : Act} {w : World} {K : Act → World → Prop} {Q : Exit → Act → World → Prop} (s x : Operand) (t te : TypeId) (size bytes : Nat) (z : Value) (i0 : TypeInfo) (f : α → List Value)
    (ho:o.op=.call { callee:=.builtin .append,args:=#[s,x],argTypes:=#[t,t] }) (ht:Tryz.prog.underlying t=some (.slice te)) (hi:Tryz.prog.info? te=some i0) (hz:i0.zero=some z)
    (hsize:i0.size=size) (hby:i0.bytes=bytes) (hzs:z.cells.size=size) (hsz:0<size) (base:Nat) (v:Value) (xs:List α) (hs:a.eval s=v) (hown:OwnsL te size f w base v xs) (hb:base≤w.heap.size)
    (xv:Value) (ys:List α) (hx:a.eval x=xv) (hys:IsL bytes size f w xv ys) (hl:∀ y,(f y).length=size) (h1:∀ y,∀ u∈f y,u.oneCell'=true) (hm:xs.length+ys.length≤9223372036854775807) (hmb:(xs.length+ys.length)*bytes≤140737488355328)
    (h:∀ v' w',OwnsL te size f w' base v' (xs++ys)→w.grownBy w' v.ownBlock→K (a.put o.dst v') w'):o.wp Tryz.prog a w K Q:=by
     obtain ⟨ao,cap,rfl,k1,k2,k3,k4,k5⟩:=hys
     cases ao with
     | none =>
      obtain ⟨hn,rfl⟩:=k4 rfl;obtain rfl:ys=[]:=List.length_eq_zero_iff.1 (by omega);have hrun:=run_append_owned_none (P:=Tryz.prog) (w:=w) base t o.type te i0 size ht hi v xs.length (xs.flatMap f) hown;unfold Oper.wp;simp only [List.length_nil] at hx;simp [execOp,ho,resolve,invoke,builtin,hs,hx,hrun,Result.andThen];exact h _ _ (by rw [List.append_nil];exact hown) (jkl (jae _) _)
     | some ad =>
      refine wp_append_own w s x t ho base te i0 z size bytes ht hi hz hsize hby hzs hsz v xs.length (xs.flatMap f) hs hown ad ys.length cap (ys.flatMap f) hx (jdC hl ys) ?_ ?_ hm hmb hb ?_
      ·intro j u hu
       by_cases hy:0<ys.length
       ·obtain ⟨b,off,hao,hc⟩:=k5 hy;obtain rfl:=Option.some.inj hao
        have hj:j<ys.length*size:=by
         have:=(List.getElem?_eq_some_iff.1 hu).1
         rwa [jdC hl] at this
        have hjs:j % size<size:=Nat.mod_lt _ hsz;have hjd:j / size<ys.length:=(Nat.div_lt_iff_lt_mul hsz).2 hj;have e1:j=j / size*size+j % size:=by rw [Nat.mul_comm];exact (Nat.div_add_mod j size).symm
        rw [e1,jfm hl ys _ _ hjd hjs] at hu;rw [Addr.add_lit];have:=(hc (j / size) hjd (j % size) hjs).1;rw [Nat.add_assoc,← e1] at this;rw [this,hu]
       ·obtain rfl:ys=[]:=List.length_eq_zero_iff.1 (by omega);simp at hu
      ·intro u hu;obtain ⟨y,-,hy⟩:=List.mem_flatMap.1 hu;exact h1 y u hy
      ·intro v' w' ho' hg _;refine h v' w' ?_ hg;unfold OwnsL;rw [List.length_append,List.flatMap_append];exact ho'
theorem jjO {α : Type} {ops : Array Oper} {rest : List Oper} {o : Oper} {a : Act} {w : World} {Q : Exit → Act → World → Prop} (hgd : o.guard = none) (s x : Operand) (t te : TypeId) (size bytes : Nat) (z : Value) (i0 : TypeInfo) (f : α → List Value)
    (ho:o.op=.call { callee:=.builtin .append,args:=#[s,x],argTypes:=#[t,t] }) (ht:Tryz.prog.underlying t=some (.slice te)) (hi:Tryz.prog.info? te=some i0) (hz:i0.zero=some z)
    (hsize:i0.size=size) (hby:i0.bytes=bytes) (hzs:z.cells.size=size) (hsz:0<size) (base:Nat) (v:Value) (xs:List α) (hs:a.eval s=v) (hown:OwnsL te size f w base v xs) (hb:base≤w.heap.size)
    (xv:Value) (ys:List α) (hx:a.eval x=xv) (hys:IsL bytes size f w xv ys) (hl:∀ y,(f y).length=size) (h1:∀ y,∀ u∈f y,u.oneCell'=true) (hm:xs.length+ys.length≤9223372036854775807) (hmb:(xs.length+ys.length)*bytes≤140737488355328)
    (h:∀ v' w',OwnsL te size f w' base v' (xs++ys)→w.grownBy w' v.ownBlock→wpList Tryz.prog ops Q rest (a.put o.dst v') w'):wpList Tryz.prog ops Q (o::rest) a w :=
     wpList_plain hgd fun _ hK=>jnR s x t te size bytes z i0 f ho ht hi hz hsize hby hzs hsz base v xs hs hown hb xv ys hx hys hl h1 hm hmb fun v' w' h2 h3=>hK _ _ (h v' w' h2 h3)
theorem jmM (n:Nod) (q:Ni):jgo n q=(jg5 n q.ins q.xs.length&&(q.xs.zip q.cs).all jdh):=by
 unfold jgo jg5
 cases jas q.ins <;> cases jas [n.out,n.name,n.op] <;> cases decide (q.ins.length≤20) <;> cases decide (q.xs.length≤20) <;> rfl
theorem jmN (g:Gra) (ns:List (Nod×Ni)) (is os:List (Val×List Int)) (ts:List (Nam×List Int×List Int)):jc6 g ns is os ts=((!jas [g.name]&&!jcu ns.length is.length os.length ts.length)&&(ns.all jcy&&(jaW (is++os)&&ts.all jbJ))):=by
 unfold jc6;have e:jaW (is++os)=(jaW is&&jaW os):=by unfold jaW;rw [List.all_append]
 rw [e]
 cases ns.all jcy <;> cases ts.all jbJ <;> cases jaW is <;> cases jaW os <;> rfl
theorem joF {nm:ByteArray} {a b c d:Nat} (h:(!jas [nm]&&!jcu a b c d)=true):a≤1000∧b≤3000∧c≤3000∧d≤3000:=by
 rw [Bool.and_eq_true] at h;have h2:=h.2;unfold jcu at h2;simp at h2;omega
theorem jkm (g:Gra) (ns:List (Nod×Ni)) (is os:List (Val×List Int)) (ts:List (Nam×List Int×List Int)) (w:World) (hr:RdG w g ns is os ts) :
    Calls Tryz.prog 15 #[jcM g] w fun e w'=>e=.returned (.bool (jc6 g ns is os ts))∧w.grownBy w' none:=by
     obtain ⟨nm,nv,iv,ov,tv⟩:=g;have HR0:=jac hr;obtain ⟨hn,hi,ho,ht,hN,hI,hO,hT⟩:=hr;simp only at hn hi ho ht;obtain ⟨na,nc,e1,a1,a2,a3⟩:=hn.form;obtain ⟨ia,ic,e2,b1,b2,b3⟩:=hi.form;obtain ⟨oa,oc,e3,c1,c2,c3⟩:=ho.form;obtain ⟨ta,tc,e4,d1,d2,d3⟩:=ht.form;simp only [List.length_map] at a1 a2 a3 b1 b2 b3 c1 c2 c3 d1 d2 d3;have hNN:ns.length≤140737488351232:=by omega
     have hNI:is.length≤140737488351232:=by omega
     have hNT:ts.length≤140737488351232:=by omega
     clear a1 a2 a3 b1 b2 b3 c1 c2 c3 d1 d2 d3 hn hi ho ht;unfold jcM;simp only [Sl.v,Value.slice.injEq,List.length_map] at e1 e2 e3 e4;obtain ⟨e1a,e1b,e1c⟩:=e1;obtain ⟨e2a,e2b,e2c⟩:=e2;obtain ⟨e3a,e3b,e3c⟩:=e3;obtain ⟨e4a,e4b,e4c⟩:=e4;simp only;rw [e1a,e1b,e1c,e2a,e2b,e2c,e3a,e3b,e3c,e4a,e4b,e4c];obtain ⟨R0,hR0⟩ : ∃ r,r=jc6 ⟨nm,nv,iv,ov,tv⟩ ns is os ts:=⟨_,rfl⟩
     rw [← hR0];have E:Hid (R0=((!jas [nm]&&!jcu ns.length is.length os.length ts.length)&&(ns.all jcy&&(jaW (is++os)&&ts.all jbJ)))):=by show _=_;rw [hR0];exact jmN ..
     clear hR0;obtain ⟨i0,hi,hz0,hz1,hz2⟩:=info_parts jhp;obtain ⟨wn,hwn⟩ : ∃ y9,y9=w.alloc (.cells #[.string nm,.slice na ns.length nc,.slice ia is.length ic,.slice oa os.length oc,.slice ta ts.length tc] 27):=⟨_,rfl⟩
     have gd:w.grownBy wn none:=by rw [hwn];exact jab _ _
     have hb1:wn.heap[w.heap.size]?=some (.cells #[.string nm,.slice na ns.length nc,.slice ia is.length ic,.slice oa os.length oc,.slice ta ts.length tc] 27 (0,0)):=by rw [hwn];exact heap_alloc_new _ _
     have G0:=jac gd;have BX:Hid (∀ wx,wn.grownBy wx none→wx.heap[w.heap.size]?=some (.cells #[.string nm,.slice na ns.length nc,.slice ia is.length ic,.slice oa os.length oc,.slice ta ts.length tc] 27 (0,0))):=fun wx hg=>jag hb1 hg;have HR:=jac (HR0.out.more gd);obtain ⟨hn,hi2,ho,ht,hN2,hI2,hO2,hT2⟩:=HR.out;simp only [Sl.v] at hn hi2 ho ht;rw [e1a,e1b,e1c] at hn;rw [e2a,e2b,e2c] at hi2;rw [e3a,e3b,e3c] at ho;rw [e4a,e4b,e4c] at ht;have HN:=jac hn;have HI:=jac hi2;have HO:=jac ho;have HT:=jac ht;have HHN:=jac hN2;have HHI:=jac hI2;have HHO:=jac hO2;have HHT:=jac hT2;have FEW:=jac (jmH ⟨nm,⟨na,ns.length,nc⟩,⟨ia,is.length,ic⟩,⟨oa,os.length,oc⟩,⟨ta,ts.length,tc⟩⟩ wn hNN hNI hNT);unfold jcM at FEW;simp only at FEW;obtain ⟨⟨x0,x1,x2,x3,x4⟩,-⟩:=jam hb1;rw [hwn] at x0 x1 x2 x3 x4;clear hn hi2 ho ht hN2 hI2 hO2 hT2 hN hI hO hT HR HR0 e1a e1b e1c e2a e2b e2c e3a e3b e3c e4a e4b e4c hb1 gd hNN hNI hNT;go_enter Tryz.func15,Tryz.ntmps15;go_wp2_with fail;rw [← hwn];clear hwn x0 x1 x2 x3 x4;refine FEW.out.mono ?_;clear FEW;rintro e w1 ⟨rfl,hg1⟩;have G:=jac hg1;clear hg1;obtain ⟨⟨x0,x1,x2,x3,x4⟩,-⟩:=jam (BX.out w1 G.out);obtain ⟨P,hP⟩ : ∃ P,P=(!jas [nm]&&!jcu ns.length is.length os.length ts.length):=⟨_,rfl⟩
     rw [← hP] at E ⊢
     cases P with
     | false =>
      have E2:Hid (R0=false):=by show _=_;rw [E.out];rfl
      clear E hP;go_wp2_with fail;go_ret;exact ⟨congrArg (fun b=>Ending.returned (Value.bool b)) E2.out.symm,jaa G0.out G.out⟩
     | true =>
      have hL:=joF hP.symm;obtain ⟨hl1,hl2,hl3,hl4⟩:=hL;have E2:Hid (R0=(ns.all jcy&&(jaW (is++os)&&ts.all jbJ))):=by show _=_;rw [E.out];rfl
      clear E hP;have E:=E2;clear E2;go_wp2_with fail;clear x0 x1 x2 x3 x4;go_loopg [3] ns.length (fun gh iv wr=>∃ k:Nat,gh=ns.length - k∧k≤ns.length∧iv=.int .i64 k∧wn.grownBy wr none∧R0=((ns.drop k).all jcy&&(jaW (is++os)&&ts.all jbJ)))
      case atStart=>exact ⟨0,rfl,Nat.zero_le _,rfl,G.out,E.out⟩
      case round =>
       clear E G;obtain ⟨k,rfl,hk,rfl,hg,he⟩:=hrel;have G:=jac hg;have E:=jac he;clear hg he;obtain ⟨⟨x0,x1,x2,x3,x4⟩,-⟩:=jam (BX.out wr G.out)
       by_cases hlt:k<ns.length
       ·skip
        obtain ⟨xb,xo,rfl⟩:=(HN.out.more G.out).addr (k:=k) (by rw [List.length_map];exact hlt);have NC:=IsL.nod (HN.out.more G.out) k (by rw [List.length_map];exact hlt);simp only [List.getElem_map] at NC;obtain ⟨e0,e1,e2,e3,e4⟩:=NC;have hx0:=HHN.out ns[k] (List.getElem_mem hlt);have DS:=List.drop_eq_getElem_cons hlt;obtain ⟨p,hp⟩ : ∃ p,p=ns[k]:=⟨_,rfl⟩
        rw [← hp] at e0 e1 e2 e3 e4 hx0 DS;obtain ⟨x,cx⟩:=p;simp only at e0 e1 e2 e3 e4 hx0;have HX:=jac (NodeIn0.more hx0 G.out);have HP:=jac hp
        have HNL:Hid (cx.xs.length=x.av.n):=by
         obtain ⟨q1,q2,q3,-⟩:=hx0.av.form;simp only [Sl.v,Value.slice.injEq] at q3;exact q3.2.1.symm
        have hxa:x.av.n≤140737488351232:=by
         obtain ⟨q1,q2,q3,q4,q5,q6⟩:=hx0.av.form;have:=HNL.out;omega
        clear hp hx0;have E1:Hid (R0=((jg5 x cx.ins x.av.n&&(cx.xs.zip cx.cs).all jdh)&&(ns.drop (k+1)).all jcy&&(jaW (is++os)&&ts.all jbJ))):=by show _=_;rw [E.out,DS,← HNL.out,← jmM];rfl
        clear E DS;have E:=E1;clear E1;have SH:=jac (jki x cx.ins wr HX.out.ins);unfold jgJ at SH;go_wp2_with fail;clear e0 e1 e2 e3 e4 x0 x1 x2 x3 x4;refine SH.out.mono ?_;rintro e wz ⟨rfl,hg⟩;have G1:=jac (jaa G.out hg);have HX1:=jac (NodeIn0.more HX.out hg);clear hg SH G HX;have G:=G1;have HX:=HX1;clear G1 HX1
        cases ht:jg5 x cx.ins x.av.n with
        | false =>
         have E2:Hid (R0=false):=by show _=_;rw [E.out,ht];rfl
         clear E ht;go_wp2_with fail;go_ret;exact ⟨congrArg (fun b=>Ending.returned (Value.bool b)) E2.out.symm,jaa G0.out G.out⟩
        | true =>
         have E2:Hid (R0=(((cx.xs.zip cx.cs).drop 0).all jdh&&((ns.drop (k+1)).all jcy&&(jaW (is++os)&&ts.all jbJ)))):=by show _=_;rw [E.out,ht,List.drop_zero,Bool.true_and,Bool.and_assoc]
         clear E ht;have E:=E2;clear E2;obtain ⟨wo,hwo⟩ : ∃ y9,y9=wz:=⟨_,rfl⟩
         go_wp2_with fail;rw [← hwo];rw [← hwo] at G HX;clear hwo;go_loopg [4] x.av.n (fun gh iv wr=>∃ j:Nat,gh=x.av.n - j∧j≤x.av.n∧iv=.int .i64 j∧wo.grownBy wr none∧R0=(((cx.xs.zip cx.cs).drop j).all jdh&&((ns.drop (k+1)).all jcy&&(jaW (is++os)&&ts.all jbJ))))
         case atStart=>exact ⟨0,rfl,Nat.zero_le _,rfl,jae _,E.out⟩
         case round =>
          clear E;obtain ⟨j,rfl,hjk,rfl,hg,he⟩:=hrel;have G2:=jac hg;have E:=jac he;clear hg he;obtain ⟨⟨x0,x1,x2,x3,x4⟩,-⟩:=jam (BX.out wr (jaa G.out G2.out));obtain ⟨e0,e1,e2,e3,e4⟩:=IsL.nod (HN.out.more (jaa G.out G2.out)) k (by rw [List.length_map];exact hlt);simp only [List.getElem_map] at e0 e1 e2 e3 e4;rw [← HP.out] at e0 e1 e2 e3 e4;simp only at e0 e1 e2 e3 e4
          by_cases hj:j<x.av.n
          ·have hj2:j<cx.xs.length:=by rw [HNL.out];exact hj
           have AV:=jac (HX.out.av.more G2.out);obtain ⟨ab,ao,ea⟩:=AV.out.addr hj2;have AC:Hid (jfn wr (.slice (some ⟨ab,ao,none⟩) x.av.n x.av.c) cx.xs):=by have h:=AV.out;unfold Sl.v at h;rw [ea] at h;exact h
           rw [ea] at e4;obtain ⟨z0,z1,z2,z3,z4,z5,z6,z7,z8⟩:=AC.out.attr j hj2;obtain ⟨C,hC,hHas⟩:=HX.out.has j cx.xs[j] (List.getElem?_eq_getElem hj2);have DZ:=jif (List.getElem?_eq_getElem hj2) hC;obtain ⟨A,hA⟩ : ∃ A,A=cx.xs[j]:=⟨_,rfl⟩
           rw [← hA] at z0 z1 z2 z3 z4 z5 z6 z7 z8 hHas DZ;have AT:=jac (jhF A C wr (hHas.more G2.out));unfold jb8 at AT;have E1:Hid (R0=((ja7 A C&&((cx.xs.zip cx.cs).drop (j+1)).all jdh)&&((ns.drop (k+1)).all jcy&&(jaW (is++os)&&ts.all jbJ)))):=by show _=_;rw [E.out,DZ];rfl
           clear E hA hC hHas DZ ea AV AC;have E:=E1;clear E1;go_wp2_with fail;clear x0 x1 x2 x3 x4 e0 e1 e2 e3 e4 z0 z1 z2 z3 z4 z5 z6 z7 z8;refine AT.out.mono ?_;rintro e wz ⟨rfl,hg⟩;have G3:=jac (jaa G2.out hg);clear hg AT G2
           cases ht:ja7 A C with
           | false =>
            have E2:Hid (R0=false):=by show _=_;rw [E.out,ht];rfl
            clear E ht;go_wp2_with fail;go_ret;exact ⟨congrArg (fun b=>Ending.returned (Value.bool b)) E2.out.symm,jaa G0.out (jaa G.out G3.out)⟩
           | true =>
            have E2:Hid (R0=(((cx.xs.zip cx.cs).drop (j+1)).all jdh&&((ns.drop (k+1)).all jcy&&(jaW (is++os)&&ts.all jbJ)))):=by show _=_;rw [E.out,ht];rfl
            clear E ht;go_wp2_with fail;go_roundg (x.av.n - (j+1))
            case measure=>omega
            case rel=>exact ⟨j+1,rfl,by omega,by go_num,G3.out,E2.out⟩
          ·have hjn:(cx.xs.zip cx.cs).drop j=[]:=List.drop_eq_nil_of_le (by rw [List.length_zip,HNL.out];omega);have E2:Hid (R0=((ns.drop (k+1)).all jcy&&(jaW (is++os)&&ts.all jbJ))):=by show _=_;rw [E.out,hjn];rfl
           have G3:=jac (jaa G.out G2.out);clear E hjn G2 G;go_wp2_with fail;go_roundg (ns.length - (k+1))
           case measure=>omega
           case rel=>exact ⟨k+1,rfl,by omega,by go_num,G3.out,E2.out⟩
       ·obtain hkN:k=ns.length:=by omega
        have E2:Hid (R0=(jaW (is++os)&&ts.all jbJ)):=by show _=_;rw [E.out,List.drop_eq_nil_of_le (by omega)];rfl
        clear E;have E:=E2;clear E2 x0 x1 x2 x3 x4;subst hkN;obtain ⟨⟨x0,x1,x2,x3,x4⟩,-⟩:=jam (BX.out wr G.out);have HS:=G.out.size;go_wp2_with (first | (at_builtin;refine jjO rfl (.tmp 49) (.tmp 51) 24 82 3 48 _ i0 ja5 rfl Tryz.underlying24 hi hz0 hz1 hz2 rfl (by decide) wn.heap.size _ ([]:List Val) rfl (OwnsL.nil ..) HS (.slice ia is.length ic) (is.map fun p:Val×List Int=>p.1) rfl (by exact HI.out.more G.out) ja2 jbF (by simp;omega) (by simp;omega) ?_;intro v1 w5 ho1 hg1;have G5:Hid (wn.grownBy w5 none):=jac (jaa G.out hg1);rw [List.nil_append] at ho1;obtain ⟨va,vc,rfl⟩:=ho1.form;have HO1:=jac ho1;rw [List.length_map] at HO1 ⊢;obtain ⟨⟨x0,x1,x2,x3,x4⟩,-⟩:=jam (BX.out w5 G5.out);have HS5:=G5.out.size) | (at_builtin;refine jjO rfl (.tmp 53) (.tmp 55) 24 82 3 48 _ i0 ja5 rfl Tryz.underlying24 hi hz0 hz1 hz2 rfl (by decide) wn.heap.size (.slice va is.length vc) (is.map fun p:Val×List Int=>p.1) rfl (by exact HO1.out) HS5 (.slice oa os.length oc) (os.map fun p:Val×List Int=>p.1) rfl (by exact HO.out.more G5.out) ja2 jbF (by simp;omega) (by simp;omega) ?_;intro v2 w6 ho2 hg2;have G6:Hid (wn.grownBy w6 none):=jac (jah G5.out hg2 (fun r e=>(World.ownsRow.lt HO1.out r e).1));obtain ⟨vb,vd,rfl⟩:=ho2.form) | fail);rw [← List.map_append] at ho2;rw [← List.length_append];have hal:=ho2.isL (bytes:=48) ja2 (by rw [List.length_map,List.length_append];omega);have HHV:Hid (∀ p∈is++os,jiA wn p.1 p.2):=jac fun p hp=>(List.mem_append.1 hp).elim (HHI.out p) (HHO.out p);have hvl:(is++os).length≤6000:=by rw [List.length_append];omega
        obtain ⟨vs,hvs⟩ : ∃ vs,vs=is++os:=⟨_,rfl⟩
        rw [← hvs] at hal HHV E hvl ⊢;rw [List.length_map] at hal;have HAL:=jac hal;have E2:Hid (R0=(jaW (vs.drop 0)&&ts.all jbJ)):=jac E.out;clear hal ho2 hg2 hvs HO1 G5 E x0 x1 x2 x3 x4 HS HS5 hl1 hl2 hl3;have E:=E2;clear E2;go_loopg [6] vs.length (fun gh iv wr=>∃ k:Nat,gh=vs.length - k∧k≤vs.length∧iv=.int .i64 k∧w6.grownBy wr none∧R0=(jaW (vs.drop k)&&ts.all jbJ))
        case atStart=>exact ⟨0,rfl,Nat.zero_le _,rfl,jae _,E.out⟩
        case round =>
         clear E;obtain ⟨k,rfl,hk,rfl,hg,he⟩:=hrel;have GA:=jac hg;have G:=jac (jaa G6.out hg);have E:=jac he;clear hg he
         by_cases hlt:k<vs.length
         ·skip
          obtain ⟨xb,xo,rfl⟩:=(HAL.out.more GA.out).addr (k:=k) (by rw [List.length_map];exact hlt);have NC:=IsL.val (HAL.out.more GA.out) k (by rw [List.length_map];exact hlt);simp only [List.getElem_map] at NC;obtain ⟨e0,e1,e2⟩:=NC;have hx0:=HHV.out vs[k] (List.getElem_mem hlt);have DS:=List.drop_eq_getElem_cons hlt;obtain ⟨p,hp⟩ : ∃ p,p=vs[k]:=⟨_,rfl⟩
          rw [← hp] at e0 e1 e2 hx0 DS;obtain ⟨x,cx⟩:=p;simp only at e0 e1 e2 hx0;have CT:=jac (jfB (.slice x.dv.a x.dv.n x.dv.c) cx wr (jaj.more hx0 G.out));clear hp hx0;have E1:Hid (R0=((jea (x,cx)&&jaW (vs.drop (k+1)))&&ts.all jbJ)):=by show _=_;rw [E.out,DS];rfl
          clear E DS;have E:=E1;clear E1;obtain ⟨pe,hpe⟩ : ∃ y9,y9=jcL cx:=⟨_,rfl⟩
          rw [← hpe] at CT;go_wp2_with fail;refine CT.out.mono ?_;rintro e wz ⟨rfl,rfl⟩
          by_cases hc:pe=0
          ·have HC:Hid (jcL cx=0):=jac (by rw [← hpe];exact hc);subst hc;clear hpe
           cases hk:chk x.ty 0 with
           | true =>
            by_cases hl:x.name.size≤100
            ·have d:decide ((100:Int)<(x.name.size:Int))=false:=decide_eq_false (by omega);have E2:Hid (R0=(jaW (vs.drop (k+1))&&ts.all jbJ)):=by show _=_;rw [E.out];have dn:decide (100<x.name.size)=false:=decide_eq_false (by omega);unfold jea jas;rw [HC.out,hk];simp only [List.any_cons,List.any_nil];rw [dn];simp
             have TY:=jac (jet x.ty wr);rw [hk] at TY;clear E hl HC hk;go_wp2_with (first | (go_at_call 42;refine TY.out.mono ?_;rintro e w7 ⟨rfl,rfl⟩) | fail);go_roundg (vs.length - (k+1))
             case measure=>omega
             case rel=>exact ⟨k+1,rfl,by omega,by go_num,GA.out,E2.out⟩
            ·have d:decide ((100:Int)<(x.name.size:Int))=true:=decide_eq_true (by omega);have E2:Hid (R0=false):=by show _=_;rw [E.out];have dn:decide (100<x.name.size)=true:=decide_eq_true (by omega);unfold jea jas;rw [HC.out,hk];simp only [List.any_cons,List.any_nil];rw [dn];simp
             have TY:=jac (jet x.ty wr);rw [hk] at TY;clear E hl HC hk;go_wp2_with (first | (go_at_call 42;refine TY.out.mono ?_;rintro e w7 ⟨rfl,rfl⟩) | fail);go_ret;exact ⟨congrArg (fun b=>Ending.returned (Value.bool b)) E2.out.symm,jaa G0.out G.out⟩
           | false =>
            have E2:Hid (R0=false):=by show _=_;rw [E.out];unfold jea;rw [hk];simp
            have TY:=jac (jet x.ty wr);rw [hk] at TY;clear E HC hk;go_wp2_with (first | (go_at_call 42;refine TY.out.mono ?_;rintro e w7 ⟨rfl,rfl⟩) | fail);go_ret;exact ⟨congrArg (fun b=>Ending.returned (Value.bool b)) E2.out.symm,jaa G0.out G.out⟩
          ·have E2:Hid (R0=false):=by show _=_;rw [E.out];unfold jea;rw [← hpe,decide_eq_false hc];simp
           have hc3:(pe != 0)=true:=by simpa using hc
           clear E hpe hc;go_wp2_with fail;go_ret;exact ⟨congrArg (fun b=>Ending.returned (Value.bool b)) E2.out.symm,jaa G0.out G.out⟩
         ·obtain hkN:k=vs.length:=by omega
          have E2:Hid (R0=(ts.drop 0).all jbJ):=by show _=_;rw [E.out,List.drop_eq_nil_of_le (by omega)];rfl
          clear E;have E:=E2;clear E2;subst hkN;obtain ⟨⟨x0,x1,x2,x3,x4⟩,-⟩:=jam (BX.out wr G.out);go_wp2_with fail;clear x0 x1 x2 x3 x4;obtain ⟨wt,hwt⟩ : ∃ y9,y9=wr:=⟨_,rfl⟩
          rw [← hwt];rw [← hwt] at G;clear hwt GA;go_loopg [9] ts.length (fun gh iv wr=>∃ k:Nat,gh=ts.length - k∧k≤ts.length∧iv=.int .i64 k∧wn.grownBy wr none∧R0=(ts.drop k).all jbJ)
          case atStart=>exact ⟨0,rfl,Nat.zero_le _,rfl,G.out,E.out⟩
          case round =>
           clear E G;obtain ⟨k,rfl,hk,rfl,hg,he⟩:=hrel;have G:=jac hg;have E:=jac he;clear hg he;obtain ⟨⟨x0,x1,x2,x3,x4⟩,-⟩:=jam (BX.out wr G.out)
           by_cases hlt:k<ts.length
           ·skip
            obtain ⟨xb,xo,rfl⟩:=(HT.out.more G.out).addr (k:=k) (by rw [List.length_map];exact hlt);have NC:=IsL.nam (HT.out.more G.out) k (by rw [List.length_map];exact hlt);simp only [List.getElem_map] at NC;obtain ⟨e0,e1,e2,e3⟩:=NC;have hx0:=HHT.out ts[k] (List.getElem_mem hlt);have DS:=List.drop_eq_getElem_cons hlt;obtain ⟨p,hp⟩ : ∃ p,p=ts[k]:=⟨_,rfl⟩
            rw [← hp] at e0 e1 e2 e3 hx0 DS;obtain ⟨x,cx⟩:=p;simp only at e0 e1 e2 e3 hx0;have PC:=jac (jfH x.ty (.slice x.dv.a x.dv.n x.dv.c) (.slice x.tv.a x.tv.n x.tv.c) cx.1 cx.2 wr (jaj.more hx0.1 G.out) (jaj.more hx0.2 G.out));have HP:=jac hp;clear hp hx0;have E1:Hid (R0=(jbJ (x,cx)&&(ts.drop (k+1)).all jbJ)):=by show _=_;rw [E.out,DS];rfl
            clear E DS;have E:=E1;clear E1;obtain ⟨pe,hpe⟩ : ∃ y9,y9=pbE x.ty cx.1 cx.2:=⟨_,rfl⟩
            rw [← hpe] at PC;go_wp2_with fail;clear e0 e1 e2 e3 x0 x1 x2 x3 x4;refine PC.out.mono ?_;rintro e wz ⟨rfl,hg⟩;have G2:=jac (jaa G.out hg);clear hg PC G;obtain ⟨⟨x0,x1,x2,x3,x4⟩,-⟩:=jam (BX.out wz G2.out);have NC:=IsL.nam (HT.out.more G2.out) k (by rw [List.length_map];exact hlt);simp only [List.getElem_map] at NC;obtain ⟨e0,e1,e2,e3⟩:=NC;rw [← HP.out] at e0 e1 e2 e3;simp only at e0 e1 e2 e3
            by_cases hc:pe=0
            ·have HC:Hid (pbE x.ty cx.1 cx.2=0):=jac (by rw [← hpe];exact hc);subst hc;clear hpe
             by_cases hl:x.name.size≤100
             ·have d:decide ((100:Int)<(x.name.size:Int))=false:=decide_eq_false (by omega);have E2:Hid (R0=(ts.drop (k+1)).all jbJ):=by show _=_;rw [E.out];have dn:decide (100<x.name.size)=false:=decide_eq_false (by omega);unfold jbJ jas;rw [HC.out];simp only [List.any_cons,List.any_nil];rw [dn];simp
              clear E hl HC;go_wp2_with fail;go_roundg (ts.length - (k+1))
              case measure=>omega
              case rel=>exact ⟨k+1,rfl,by omega,by go_num,G2.out,E2.out⟩
             ·have d:decide ((100:Int)<(x.name.size:Int))=true:=decide_eq_true (by omega);have E2:Hid (R0=false):=by show _=_;rw [E.out];have dn:decide (100<x.name.size)=true:=decide_eq_true (by omega);unfold jbJ jas;rw [HC.out];simp only [List.any_cons,List.any_nil];rw [dn];simp
              clear E hl HC;go_wp2_with fail;go_ret;exact ⟨congrArg (fun b=>Ending.returned (Value.bool b)) E2.out.symm,jaa G0.out G2.out⟩
            ·have E2:Hid (R0=false):=by show _=_;rw [E.out];unfold jbJ;rw [← hpe,decide_eq_false hc];simp
             have hc3:(pe != 0)=true:=by simpa using hc
             clear E hpe hc;go_wp2_with fail;go_ret;exact ⟨congrArg (fun b=>Ending.returned (Value.bool b)) E2.out.symm,jaa G0.out G2.out⟩
           ·obtain hkN:k=ts.length:=by omega
            have E2:Hid (R0=true):=by show _=_;rw [E.out,List.drop_eq_nil_of_le (by omega)];rfl
            clear E;subst hkN;go_wp2_with fail;go_ret;exact ⟨congrArg (fun b=>Ending.returned (Value.bool b)) E2.out.symm,jaa G0.out G.out⟩
end Go.Proofs.YtbgbpfbjeleooaaGreat.Pd
namespace Go.Proofs.YtbgbpfbjeleooaaGreat.Pd
open Go.RowKit
open Wr (Fld)
theorem jmO (nv iv ov tv s1 s2 s3:Sl):SmallG ⟨⟨#[103]⟩,nv,iv,ov,tv⟩ (jdl s1) (jdm s2) (jdn s3) []:=by
 refine ⟨Nat.le_of_ble_eq_true rfl,fun p hp=>?_,fun p hp=>?_,fun p hp=>?_,(fun p hp=>by cases hp),Nat.le_of_ble_eq_true rfl,Nat.le_of_ble_eq_true rfl,Nat.le_of_ble_eq_true rfl,Nat.le_of_ble_eq_true rfl⟩
 ·simp only [jdl,List.mem_cons,List.not_mem_nil,or_false] at hp;subst hp;refine ⟨fun s hs=>?_,Nat.le_of_ble_eq_true rfl,Nat.le_of_ble_eq_true rfl,Nat.le_of_ble_eq_true rfl,(fun a ha=>by cases ha),(fun a ha=>by cases ha),Nat.le_of_ble_eq_true rfl,Nat.le_of_ble_eq_true rfl⟩;simp only [List.mem_cons,List.not_mem_nil,or_false] at hs;subst hs;exact Nat.le_of_ble_eq_true rfl
 ·simp only [jdm,List.mem_cons,List.not_mem_nil,or_false] at hp;subst hp;exact ⟨Nat.le_of_ble_eq_true rfl,Nat.le_of_ble_eq_true rfl⟩
 ·simp only [jdn,List.mem_cons,List.not_mem_nil,or_false] at hp;subst hp;exact ⟨Nat.le_of_ble_eq_true rfl,Nat.le_of_ble_eq_true rfl⟩
theorem jlG (nv iv ov tv s1 s2 s3:Sl):jeN ⟨⟨#[103]⟩,nv,iv,ov,tv⟩ (jdl s1) (jdm s2) (jdn s3) []=.ok jer:=by
 unfold jeN;rw [jkd,if_pos rfl];exact jlm
theorem joG (w:World):RdG w ⟨⟨#[]⟩,jnV,jnV,jnV,jnV⟩ [] [] [] [] :=
 ⟨OwnsL.isL (te:=35) (base:=0) jco (OwnsL.nil ..) (by simp),OwnsL.isL (te:=82) (base:=0) ja2 (OwnsL.nil ..) (by simp),OwnsL.isL (te:=82) (base:=0) ja2 (OwnsL.nil ..) (by simp),OwnsL.isL (te:=67) (base:=0) jcn (OwnsL.nil ..) (by simp),(fun p hp=>by cases hp),(fun p hp=>by cases hp),(fun p hp=>by cases hp),(fun p hp=>by cases hp)⟩
theorem jlH (w:World):Calls Tryz.prog 9 #[] w fun e w'=>e=.returned (.bool true)∧w.grownBy w' none:=by
 go_enter Tryz.func9,Tryz.ntmps9;go_wp2_with fail;refine (jil w).mono ?_;rintro e w1 ⟨⟨nm,nv,iv,ov,tv⟩,s1,s2,s3,rfl,hnm,hrd,hg1⟩;simp only at hnm;subst hnm;have G1:=jac hg1;have EN:=jac (jfz ⟨⟨#[103]⟩,nv,iv,ov,tv⟩ (jdl s1) (jdm s2) (jdn s3) [] w1 hrd (fun _=>jmO nv iv ov tv s1 s2 s3));rw [jlG] at EN;clear hrd hg1;go_wp2_with fail;refine EN.out.mono ?_;rintro e w2 ⟨hg2,rfl⟩;have G2:=jac (jaa G1.out hg2);clear hg2 EN G1;have DA:=jac (jdv jer w2 (by decide));rw [jke] at DA;go_wp2_with fail;refine DA.out.mono ?_;rintro e w3 ⟨hg3,v,rfl,⟨⟨an,⟨a0,a1,a2⟩,⟨a3,a4,a5⟩,⟨a6,a7,a8⟩,⟨a9,a10,a11⟩⟩,ans,ais,aos,ats,loa,rfl,ha,hloa,hqa⟩⟩;unfold jcM;simp only [Sl.v] at hqa ⊢;have G3:=jac (jaa G2.out hg3);clear hg3 DA G2;obtain ⟨q1,q2,q3,q4,q5⟩:=NGra.mk.inj ha;have l2:=congrArg List.length q2;have l3:=congrArg List.length q3;have l4:=congrArg List.length q4;have l5:=congrArg List.length q5;simp only [List.length_map,List.length_cons,List.length_nil] at l2 l3 l4 l5;have RDa:=jac (hqa.rd (g:=⟨an,⟨a0,a1,a2⟩,⟨a3,a4,a5⟩,⟨a6,a7,a8⟩,⟨a9,a10,a11⟩⟩) (by omega) (by omega) (by omega) (by omega));have LNa:Hid (ans.length≤1048576∧ais.length≤1048576∧aos.length≤1048576∧ats.length≤1048576):=by refine ⟨?_,?_,?_,?_⟩ <;> omega
 have EQa:Hid (jbi ⟨an,⟨a0,a1,a2⟩,⟨a3,a4,a5⟩,⟨a6,a7,a8⟩,⟨a9,a10,a11⟩⟩ ans ais aos ats=jll):=by show _=_;exact ha.symm
 clear q1 q2 q3 q4 q5 l2 l3 l4 l5 hqa ha hloa;obtain ⟨wa,hwa⟩ : ∃ y9,y9=w3.alloc (.cells #[.string an,.slice a0 a1 a2,.slice a3 a4 a5,.slice a6 a7 a8,.slice a9 a10 a11] 27):=⟨_,rfl⟩
 have G3a:Hid (w.grownBy wa none):=by show w.grownBy wa none;rw [hwa];exact jaa G3.out (jab _ _)
 have RDA:Hid (RdG wa ⟨an,⟨a0,a1,a2⟩,⟨a3,a4,a5⟩,⟨a6,a7,a8⟩,⟨a9,a10,a11⟩⟩ ans ais aos ats):=by show RdG _ _ _ _ _ _;rw [hwa];exact RDa.out.more (jab _ _)
 have hba:wa.heap[w3.heap.size]?=some (.cells #[.string an,.slice a0 a1 a2,.slice a3 a4 a5,.slice a6 a7 a8,.slice a9 a10 a11] 27 (0,0)):=by rw [hwa];exact heap_alloc_new _ _
 have BA:=jac (fun wx (hg:wa.grownBy wx none)=>jag hba hg);have DB:=jac (jdv ⟨#[58,0]⟩ wa (by decide));rw [jln] at DB;clear G3 RDa hba;go_wp2_with fail;rw [← hwa];clear hwa;refine DB.out.mono ?_;rintro e w4 ⟨hg4,v,rfl,⟨⟨bn,⟨b0,b1,b2⟩,⟨b3,b4,b5⟩,⟨b6,b7,b8⟩,⟨b9,b10,b11⟩⟩,bns,bis,bos,bts,lob,rfl,hb,hlob,hqb⟩⟩;unfold jcM;simp only [Sl.v] at hqb ⊢;have G4:=jac (jaa G3a.out hg4);have GA:=jac hg4;clear hg4 DB G3a;obtain ⟨q1,q2,q3,q4,q5⟩:=NGra.mk.inj hb;have l2:=congrArg List.length q2;have l3:=congrArg List.length q3;have l4:=congrArg List.length q4;have l5:=congrArg List.length q5;simp only [List.length_map,List.length_nil] at l2 l3 l4 l5;have RDb:=jac (hqb.rd (g:=⟨bn,⟨b0,b1,b2⟩,⟨b3,b4,b5⟩,⟨b6,b7,b8⟩,⟨b9,b10,b11⟩⟩) (by omega) (by omega) (by omega) (by omega));have LNb:Hid (bns.length≤1048576∧bis.length≤1048576∧bos.length≤1048576∧bts.length≤1048576):=by refine ⟨?_,?_,?_,?_⟩ <;> omega
 have EQb:Hid (jbi ⟨bn,⟨b0,b1,b2⟩,⟨b3,b4,b5⟩,⟨b6,b7,b8⟩,⟨b9,b10,b11⟩⟩ bns bis bos bts=⟨⟨#[]⟩,[],[],[],[]⟩):=by show _=_;exact hb.symm
 clear q1 q2 q3 q4 q5 l2 l3 l4 l5 hqb hb hlob;obtain ⟨wb,hwb⟩ : ∃ y9,y9=w4.alloc (.cells #[.string bn,.slice b0 b1 b2,.slice b3 b4 b5,.slice b6 b7 b8,.slice b9 b10 b11] 27):=⟨_,rfl⟩
 have G4b:Hid (w.grownBy wb none):=by show w.grownBy wb none;rw [hwb];exact jaa G4.out (jab _ _)
 have GAb:Hid (wa.grownBy wb none):=by show wa.grownBy wb none;rw [hwb];exact jaa GA.out (jab _ _)
 have RDB:Hid (RdG wb ⟨bn,⟨b0,b1,b2⟩,⟨b3,b4,b5⟩,⟨b6,b7,b8⟩,⟨b9,b10,b11⟩⟩ bns bis bos bts):=by show RdG _ _ _ _ _ _;rw [hwb];exact RDb.out.more (jab _ _)
 have hbb:wb.heap[w4.heap.size]?=some (.cells #[.string bn,.slice b0 b1 b2,.slice b3 b4 b5,.slice b6 b7 b8,.slice b9 b10 b11] 27 (0,0)):=by rw [hwb];exact heap_alloc_new _ _
 have BB:=jac (fun wx (hg:wb.grownBy wx none)=>jag hbb hg);have DC:=jac (jdv ⟨#[56,1]⟩ wb (by decide));rw [jlo] at DC;clear G4 GA RDb hbb;go_wp2_with fail;rw [← hwb];clear hwb;refine DC.out.mono ?_;rintro e w5 ⟨hg5,rfl⟩;obtain ⟨wc,hwc⟩ : ∃ y9,y9=w5.alloc (.cells #[.string ⟨#[]⟩,.slice none 0 0,.slice none 0 0,.slice none 0 0,.slice none 0 0] 27):=⟨_,rfl⟩
 have Gbc:Hid (wb.grownBy wc none):=by show wb.grownBy wc none;rw [hwc];exact jaa hg5 (jab _ _)
 have DD:=jac (jdv ⟨#[]⟩ wc (by decide));rw [jkf] at DD;clear hg5 DC;go_wp2_with fail;rw [← hwc];clear hwc;refine DD.out.mono ?_;rintro e w6 ⟨hg6,rfl⟩;obtain ⟨wd,hwd⟩ : ∃ y9,y9=w6.alloc (.cells #[.string ⟨#[]⟩,.slice none 0 0,.slice none 0 0,.slice none 0 0,.slice none 0 0] 27):=⟨_,rfl⟩
 have Gbd:Hid (wb.grownBy wd none):=by show wb.grownBy wd none;rw [hwd];exact jaa (jaa Gbc.out hg6) (jab _ _)
 have Gd6:wb.grownBy w6 none:=jaa Gbc.out hg6;obtain ⟨⟨a0c,a1c,a2c,a3c,a4c⟩,-⟩:=jam (BA.out wd (jaa GAb.out Gbd.out));obtain ⟨⟨b0c,b1c,b2c,b3c,b4c⟩,-⟩:=jam (BB.out wd Gbd.out);clear hg6 DD Gbc Gd6;rw [hwd] at a0c a1c a2c a3c a4c b0c b1c b2c b3c b4c;go_wp2_with fail;rw [← hwd];clear a0c a1c a2c a3c a4c b0c b1c b2c b3c b4c hwd;have SBL:=jac (fun wx (hg:wb.grownBy wx none)=>jfP ⟨bn,⟨b0,b1,b2⟩,⟨b3,b4,b5⟩,⟨b6,b7,b8⟩,⟨b9,b10,b11⟩⟩ ⟨⟨#[]⟩,⟨none,0,0⟩,⟨none,0,0⟩,⟨none,0,0⟩,⟨none,0,0⟩⟩ bns [] bis bos [] [] bts [] wx (RDB.out.more hg) (joG wx) EQb.out);unfold jcM at SBL;simp only at SBL;have CX:Hid (∀ wx,wb.grownBy wx none→(wx.cell? ⟨w3.heap.size,0,none⟩=some (.string an)∧wx.cell? ⟨w3.heap.size,1,none⟩=some (.slice a0 a1 a2)∧wx.cell? ⟨w3.heap.size,2,none⟩=some (.slice a3 a4 a5)∧wx.cell? ⟨w3.heap.size,3,none⟩=some (.slice a6 a7 a8)∧wx.cell? ⟨w3.heap.size,4,none⟩=some (.slice a9 a10 a11))∧(wx.cell? ⟨w4.heap.size,0,none⟩=some (.string bn)∧wx.cell? ⟨w4.heap.size,1,none⟩=some (.slice b0 b1 b2)∧wx.cell? ⟨w4.heap.size,2,none⟩=some (.slice b3 b4 b5)∧wx.cell? ⟨w4.heap.size,3,none⟩=some (.slice b6 b7 b8)∧wx.cell? ⟨w4.heap.size,4,none⟩=some (.slice b9 b10 b11))):=fun wx hg=>⟨(jam (BA.out wx (jaa GAb.out hg))).1,(jam (BB.out wx hg)).1⟩
 obtain ⟨⟨a0c,a1c,a2c,a3c,a4c⟩,b0c,b1c,b2c,b3c,b4c⟩:=CX.out wd Gbd.out;go_region_held3 (fun w'=>w'.cell? ⟨w3.heap.size,0,none⟩=some (.string an)∧w'.cell? ⟨w3.heap.size,1,none⟩=some (.slice a0 a1 a2)∧w'.cell? ⟨w3.heap.size,2,none⟩=some (.slice a3 a4 a5)∧w'.cell? ⟨w3.heap.size,3,none⟩=some (.slice a6 a7 a8)∧w'.cell? ⟨w3.heap.size,4,none⟩=some (.slice a9 a10 a11)∧w'.cell? ⟨w4.heap.size,0,none⟩=some (.string bn)∧w'.cell? ⟨w4.heap.size,1,none⟩=some (.slice b0 b1 b2)∧w'.cell? ⟨w4.heap.size,2,none⟩=some (.slice b3 b4 b5)∧w'.cell? ⟨w4.heap.size,3,none⟩=some (.slice b6 b7 b8)∧w'.cell? ⟨w4.heap.size,4,none⟩=some (.slice b9 b10 b11)) (go_keep) (first | (go_at_call 20;refine (jil _).mono ?_;rintro e w7 ⟨⟨nm',nv',iv',ov',tv'⟩,t1,t2,t3,rfl,hnm',hrd',hg7⟩;have k7:wd.grownBy w7 none:=(by first | exact hg7 | exact jaa (jaz (jae wd)) hg7 | exact jaa (jaz (jaz (jae wd))) hg7);have h7:=jaa Gbd.out k7;simp only at hnm';subst hnm';obtain ⟨⟨a0d,a1d,a2d,a3d,a4d⟩,b0d,b1d,b2d,b3d,b4d⟩:=CX.out w7 h7;have SA:Hid (Calls Tryz.prog 12 #[.agg #[.string an,.slice a0 a1 a2,.slice a3 a4 a5,.slice a6 a7 a8,.slice a9 a10 a11],jcM ⟨⟨#[103]⟩,nv',iv',ov',tv'⟩] w7 fun e w'=>e=.returned (.bool true)∧w7.grownBy w' none):=jac (jfP ⟨an,⟨a0,a1,a2⟩,⟨a3,a4,a5⟩,⟨a6,a7,a8⟩,⟨a9,a10,a11⟩⟩ ⟨⟨#[103]⟩,nv',iv',ov',tv'⟩ ans (jdl t1) ais aos (jdm t2) (jdn t3) ats [] w7 (RDA.out.more (jaa GAb.out h7)) hrd' EQa.out)) | (go_at_call 12;with_reducible refine SB.out.mono ?_;rintro e w9 ⟨rfl,hg9⟩;have h9:=jaa h8 hg9;obtain ⟨⟨a0f,a1f,a2f,a3f,a4f⟩,b0f,b1f,b2f,b3f,b4f⟩:=CX.out w9 h9) | (go_at_call 12;with_reducible refine SA.out.mono ?_;rintro e w8 ⟨rfl,hg8⟩;have h8:=jaa h7 hg8;obtain ⟨⟨a0e,a1e,a2e,a3e,a4e⟩,b0e,b1e,b2e,b3e,b4e⟩:=CX.out w8 h8;have SB:=jac (SBL.out w8 h8)) | fail);go_wp2;go_ret;exact ⟨rfl,jaa G4b.out h9⟩
end Go.Proofs.YtbgbpfbjeleooaaGreat.Pd
namespace Go.Proofs.YtbgbpfbjeleooaaGreat.Pd
open Go.RowKit
open Wr (Fld)
theorem jlI {G:NGra} (h:TG G):G.nodes.length≤1000∧G.ins.length≤3000∧G.outs.length≤3000∧G.inits.length≤3000:=by
 have h2:=h.few;unfold jcu at h2;simp only [Bool.or_eq_false_iff,decide_eq_false_iff_not] at h2;omega
theorem jlJ (h g:Gra) (ns ns':List (Nod×Ni)) (is os is' os':List (Val×List Int)) (ts ts':List (Nam×List Int×List Int)) (w:World) (hh:RdG w h ns is os ts) (hg:RdG w g ns' is' os' ts') (G:NGra) (e:jbi h ns is os ts=G) (e':jbi g ns' is' os' ts'=G) :
    Calls Tryz.prog 12 #[jcM h,jcM g] w fun e w'=>e=.returned (.bool true)∧w.grownBy w' none:=by
     exact jfP h g ns ns' is os is' os' ts ts' w hh hg (e.trans e'.symm)
theorem jjP {G:NGra} {s:ByteArray} (h:jax G=.ok s):s.size≤16777216:=by
 unfold jax at h;obtain ⟨_,-,h⟩:=jc1 h;obtain ⟨_,-,h⟩:=jc1 h;exact jep h
end Go.Proofs.YtbgbpfbjeleooaaGreat.Pd
