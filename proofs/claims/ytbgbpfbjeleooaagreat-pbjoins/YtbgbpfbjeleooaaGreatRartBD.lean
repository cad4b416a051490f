/- A part. -/
import Derived.Test.YtbgbpfbjeleooaaGreatRartBB
import Derived.Deep.RegionHeld3
set_option maxHeartbeats 3200000
set_option maxRecDepth 100000
namespace Go.Proofs.YtbgbpfbjeleooaaGreat.Wr
open Go.RowKit
theorem jgm (x:Fld) (w:World) (hx:fok x=true) (hin:FldIn x) :
    Calls Tryz.prog 129 #[jcH x] w fun e w'=>e=.returned (.int .i64 (fb x).length)∧w.grownBy w' none:=by
     have T:=jac (fun wx=>jk7 x wx hx);have tl:=jk3 hx;have V:=jac (fun wx=>jcU (jc9 x) wx (by omega));have V2:=jac (fun wx=>jcU x.u.toNat wx (by have:=hin.2.2.2.2.2;omega));have V3:=jac (fun wx=>jcU x.b.size wx (by have:=hin.2.2.2.2.2;omega));have hfb:Hid ((fb x).length=(vb (jc9 x)).length+(jby x).length):=by unfold fb;rw [List.length_append];rfl
     have b1:=vbF_len 10 (jc9 x);have b2:=vbF_len 10 x.u.toNat;have b3:=vbF_len 10 x.b.size;change 1≤(vb (jc9 x)).length∧(vb (jc9 x)).length≤11 at b1;change 1≤(vb x.u.toNat).length∧(vb x.u.toNat).length≤11 at b2;change 1≤(vb x.b.size).length∧(vb x.b.size).length≤11 at b3;have hk:=jdK hx;obtain ⟨L,hL⟩ : ∃ L,L=(vb (jc9 x)).length:=⟨_,rfl⟩
     obtain ⟨h1,h2,h3,h4,h5,h6,h7⟩:=hin;rw [← hL] at V hfb b1;obtain ⟨num,kind,u,b⟩:=x;simp only [jcH] at *;clear tl hL h1 h2 h3 h4
     rcases hk with ⟨rfl,hb⟩ | ⟨rfl,hb⟩ | ⟨rfl,hb,hu⟩ | ⟨rfl,rfl⟩
     ·go_enter Tryz.func129,Tryz.ntmps129;go_wp2_with fail;refine (T.out _).mono ?_;rintro e w1 ⟨rfl,g1⟩;go_wp2_with fail;refine (V.out _).mono ?_;rintro e w2 ⟨rfl,rfl⟩;obtain ⟨c0,c1,c2,c3,-,-,-,-⟩:=jfS ((g1.block _ (by simp) (by simp)).trans (heap_alloc_new w _));obtain ⟨m,rfl⟩ : ∃ m:Nat,u=m:=⟨u.toNat,by omega⟩
      rw [Int.toNat_natCast] at V2 b2;go_wp2_with fail;refine (V2.out _).mono ?_;rintro e w3 ⟨rfl,rfl⟩;go_wp2;go_ret;refine ⟨jgk ?_,jaa (jab _ _) g1⟩;have hf:=hfb.out;have ht:(jby ⟨num,0,m,b⟩).length=(vb m).length:=by simp [jby]
      rw [hf,ht];omega
     ·go_enter Tryz.func129,Tryz.ntmps129;go_wp2_with fail;refine (T.out _).mono ?_;rintro e w1 ⟨rfl,g1⟩;go_wp2_with fail;refine (V.out _).mono ?_;rintro e w2 ⟨rfl,rfl⟩;obtain ⟨c0,c1,c2,c3,-,-,-,-⟩:=jfS ((g1.block _ (by simp) (by simp)).trans (heap_alloc_new w _));go_wp2;go_ret;refine ⟨jgk ?_,jaa (jab _ _) g1⟩;have hf:=hfb.out;have ht:(jby ⟨num,1,u,b⟩).length=8:=by simp [jby,je7]
      rw [hf,ht];omega
     ·go_enter Tryz.func129,Tryz.ntmps129;go_wp2_with fail;refine (T.out _).mono ?_;rintro e w1 ⟨rfl,g1⟩;go_wp2_with fail;refine (V.out _).mono ?_;rintro e w2 ⟨rfl,rfl⟩;obtain ⟨c0,c1,c2,c3,-,-,-,-⟩:=jfS ((g1.block _ (by simp) (by simp)).trans (heap_alloc_new w _));go_wp2;go_ret;refine ⟨jgk ?_,jaa (jab _ _) g1⟩;have hf:=hfb.out;have ht:(jby ⟨num,5,u,b⟩).length=4:=by simp [jby,je7]
      rw [hf,ht];omega
     ·go_enter Tryz.func129,Tryz.ntmps129;go_wp2_with fail;refine (T.out _).mono ?_;rintro e w1 ⟨rfl,g1⟩;go_wp2_with fail;refine (V.out _).mono ?_;rintro e w2 ⟨rfl,rfl⟩;obtain ⟨c0,c1,c2,c3,-,-,-,-⟩:=jfS ((g1.block _ (by simp) (by simp)).trans (heap_alloc_new w _));have hw1:IntKind.u64.wrap (b.size:Int)=b.size:=IntWalk.u64_in _ ⟨by omega,by omega⟩;have hw2:IntKind.i64.wrap ((L:Int)+((vb b.size).length:Int))=(L:Int)+((vb b.size).length:Int):=by rw [IntKind.wrap_i64];omega
      have hw3:IntKind.i64.wrap ((L:Int)+((vb b.size).length:Int)+(b.size:Int))=(L:Int)+((vb b.size).length:Int)+(b.size:Int):=by rw [IntKind.wrap_i64];omega
      clear V2 V b2 c0 c2 T hx;go_wp2_with fail;go_region_held3 (fun w'=>w'.cell? ⟨w.heap.size,3,none⟩=some (.string b)) (go_keep) (first | (go_at_call 149;refine (V3.out _).mono ?_;rintro e w' ⟨rfl,rfl⟩));go_wp2;go_ret;refine ⟨jgk ?_,row_drew (jaa (jab _ _) g1)⟩;have hf:=hfb.out;have ht:(jby ⟨num,2,0,b⟩).length=(vb b.size).length+b.size:=by simp [jby,jcm]
      rw [hf,ht];omega
end Go.Proofs.YtbgbpfbjeleooaaGreat.Wr
