/- A part. -/
import Derived.Test.YtanpkdkenifmbaaGreatDoorUartBE
import Derived.Test.YtanpkdkenifmbaaGreatDoorUartAX
import Derived.Deep.AppendLies
import Derived.Test.YtanpkdkenifmbaaGreatDoorUartAQ
import Derived.Deep.RegionHeld3
set_option maxHeartbeats 4000000
set_option maxRecDepth 100000
namespace Go.Proofs.YtanpkdkenifmbaaGreatDoor
open Go.RowKit
structure Blk (w:World) (v:Value) (rs:List (Sl×List Int)) (k:Nat):Prop where
 cols:jr8 w v (rs.map (·.1))
 has:∀ r∈rs,IsInts w r.1.v r.2∧r.2.length=k
theorem Blk.more {w w':World} {v:Value} {rs:List (Sl×List Int)} {k:Nat} (h:Blk w v rs k) (hg:w.grownBy w' none):Blk w' v rs k:=⟨h.cols.more hg,fun r hr=>⟨(h.has r hr).1.more hg,(h.has r hr).2⟩⟩
theorem Blk.sl {w:World} {v:Value} {rs:List (Sl×List Int)} {k:Nat} (h:Blk w v rs k):∃ a c,v=.slice a rs.length c∧rs.length≤c∧c≤9223372036854775807:=by
 obtain ⟨a,c,e,h1,h2,-⟩:=h.cols.form;rw [List.length_map] at e h1;exact ⟨a,c,e,h1,h2⟩
theorem Blk.row {w:World} {ao:Option Addr} {n c:Nat} {rs:List (Sl×List Int)} {k:Nat} (h:Blk w (.slice ao n c) rs k) {i:Nat} (hi:i<rs.length):∃ b off,ao=some ⟨b,off,none⟩∧w.cell? ⟨b,off+i,none⟩=some (.slice rs[i].1.a rs[i].1.n rs[i].1.c):=by
 obtain ⟨b,off,rfl⟩:=h.cols.addr (k:=i) (by rw [List.length_map];exact hi);have hc:=h.cols.at i (by rw [List.length_map];exact hi) 0 (by omega);rw [List.getElem_map] at hc;exact ⟨b,off,rfl,by simpa [jqt] using hc⟩
end Go.Proofs.YtanpkdkenifmbaaGreatDoor
namespace Go.Proofs.YtanpkdkenifmbaaGreatDoor
open Go.RowKit
theorem jem {w:World} {b off n c:Nat} {zs:List Int} (h:IsInts w (.slice (some ⟨b,off,none⟩) n c) zs) (p m c':Nat) (hp:p+m≤zs.length) (hc:p+c'≤c) (hm:m≤c'):IsInts w (.slice (some ⟨b,off+p,none⟩) m c') ((zs.drop p).take m):=by
 obtain ⟨a,c0,e,h1,h2,h3,-,h5,h6⟩:=h;simp only [Value.slice.injEq] at e;obtain ⟨rfl,-,rfl⟩:=e;have hl:((zs.drop p).take m).length=m:=by rw [List.length_take,List.length_drop];omega
 refine ⟨_,_,by rw [hl],by rw [hl];exact hm,by omega,by rw [hl];omega,(fun h=>by cases h),fun _=>⟨b,off+p,rfl,fun t ht=>?_⟩,fun z hz=>h6 z (List.mem_of_mem_drop (List.mem_of_mem_take hz))⟩;rw [hl] at ht;obtain ⟨b',off',e',hcell⟩:=h5 (by omega);simp only [Option.some.injEq,Addr.mk.injEq] at e';obtain ⟨rfl,rfl,-⟩:=e';rw [Nat.add_assoc,hcell (p+t) (by omega)]
 congr 2
 simp only [List.getD];rw [List.getElem?_take_of_lt ht,List.getElem?_drop]
end Go.Proofs.YtanpkdkenifmbaaGreatDoor
namespace Go.Proofs.YtanpkdkenifmbaaGreatDoor
open Go.RowKit
theorem jcb {x:Int} (h1:0≤x) (h2:x≤1000000):wrap64 x=x:=by
 unfold wrap64;omega
end Go.Proofs.YtanpkdkenifmbaaGreatDoor
namespace Go.Proofs.YtanpkdkenifmbaaGreatDoor
open Go.RowKit
def ToldF (k:Nat) (w:World) (e:Ending) (w':World):Prop:=∃ b,e=.returned (.bool b)∧(b=true→k≤6)∧w.grownBy w' none
theorem jjm (u:Sl) (ps:List (Ten×Tq)) (w:World) (hv:TensIn w u.v ps):Calls Tryz.prog 4 #[.slice u.a u.n u.c] w (ToldF ps.length w):=by
 obtain ⟨xa,xc,e1,p1,p2,p3⟩:=hv.vals.form;rw [List.length_map] at e1 p1 p3;obtain ⟨ua,un,uc⟩:=u;simp only [Sl.v,Value.slice.injEq] at e1;obtain ⟨rfl,rfl,rfl⟩:=e1;have HV:=jac hv;clear hv;go_enter Tryz.func4,Tryz.ntmps4;go_wp2_with fail;go_loopw [3] (fun i wr=>w.grownBy wr none∧∃ (k:Nat),k≤ps.length∧i=.int .i64 k) (fun i _=>ps.length - (intOf i).toNat)
 case atStart=>exact ⟨jae _,0,Nat.zero_le _,rfl⟩
 case round =>
  obtain ⟨hg,k,hk,rfl⟩:=hrel;have HG:=jac hg
  by_cases hlt:k<ps.length
  ·obtain ⟨b,off,rfl⟩:=HV.out.vals.addr (k:=k) (by rw [List.length_map];exact hlt);obtain ⟨-,-,a2⟩:=(HV.out.more hg).at k hlt;obtain ⟨⟨ta,tn,tc⟩,hp⟩ : ∃ p,p=ps[k].1.tv:=⟨_,rfl⟩
   rw [← hp] at a2;simp only at a2;clear hp hg
   by_cases hb:2000<tn
   ·have hb':(2000:Int)<tn:=by omega
    go_wp2;go_ret;exact ⟨_,rfl,(fun h=>by cases h),HG.out⟩
   ·have hb':¬ (2000:Int)<tn:=by omega
    go_wp2_with fail;go_roundw
    case rel=>exact ⟨HG.out,k+1,by omega,by go_num⟩
    case measure=>simp [intOf];omega
  ·obtain rfl:k=ps.length:=by omega
   clear hg
   by_cases h6:ps.length≤6
   ·have h6':(ps.length:Int)≤6:=by omega
    go_wp2;go_ret;exact ⟨_,rfl,(fun _=>h6),HG.out⟩
   ·have h6':¬ (ps.length:Int)≤6:=by omega
    go_wp2;go_ret;exact ⟨_,rfl,(fun h=>by first | (cases h;done) | exact absurd (of_decide_eq_true h) h6'),HG.out⟩
end Go.Proofs.YtanpkdkenifmbaaGreatDoor
