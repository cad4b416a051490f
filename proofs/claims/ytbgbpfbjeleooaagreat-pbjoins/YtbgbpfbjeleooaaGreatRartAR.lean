/- A part. -/
import Derived.Test.YtbgbpfbjeleooaaGreatRartAP
import Derived.Test.YtbgbpfbjeleooaaGreatRartAQ
import Derived.Deep.LoopGhost
import Derived.Test.YtbgbpfbjeleooaaGreatRartAH
set_option maxHeartbeats 6400000
set_option maxRecDepth 100000
namespace Go.Proofs.YtbgbpfbjeleooaaGreat.Pd
open Go.RowKit
open Wr (Fld)
def jbg (s:ByteArray):List Value:=[.string s]
theorem jcr (s:ByteArray):(jbg s).length=1:=rfl
theorem jb7 (s:ByteArray):∀ u∈jbg s,u.oneCell'=true:=by
 intro u hu;simp [jbg] at hu;subst hu;rfl
theorem jej:(Tryz.prog.info? 9).map (fun i=>(i.zero,i.size,i.bytes))=some (some (.string ⟨#[]⟩),1,16):=by kernel_rfl
abbrev jew (w:World) (base:Nat) (v:Value) (ss:List ByteArray):Prop:=OwnsL 9 1 jbg w base v ss
def tot (l:List ByteArray):Nat:=(l.map (·.size)).sum
theorem jge (a b:List ByteArray):tot (a++b)=tot a+tot b:=by simp [tot]
theorem jbk (a:ByteArray) (b:List ByteArray):tot (a::b)=a.size+tot b:=by simp [tot]
theorem jfs (a:ByteArray):tot [a]=a.size:=by simp [tot]
theorem jhh (s:ByteArray):∀ (f p:Nat) {l:List Fld},Wr.allF (Wr.fd s) s.size f p=some l→tot (l.map (·.b))≤s.size - p
 | 0,p,l,h=>by cases h;simp [tot]
 | f+1,p,l,h=>by
  unfold Wr.allF at h
  split at h
  ·cases hx:Wr.fd s p with
   | none=>rw [hx] at h;cases h
   | some y =>
    obtain ⟨x,q⟩:=y;rw [hx] at h;simp only at h
    cases hm:Wr.allF (Wr.fd s) s.size f q with
    | none=>rw [hm] at h;cases h
    | some m =>
     rw [hm] at h
     cases h
     have h1:=jhh s f q hm;have h2:=Wr.fd_spec hx;rw [List.map_cons,jbk];omega
  ·cases h;simp [tot]
theorem jcD {s:ByteArray} {l:List Fld} (h:jaX s=.ok l):tot (l.map (·.b))≤16777216:=by
 unfold jaX at h
 split at h
 ·cases h
 ·cases hm:Wr.all (Wr.fd s) s.size with
  | none=>rw [hm] at h;cases h
  | some m =>
   rw [hm] at h
   cases h
   have:=jhh s s.size 0 hm;omega
def jbR (l:List ByteArray):ByteArray:=⟨(l.flatMap (·.data.toList)).toArray⟩
theorem jdZ:∀ l:List ByteArray,(l.flatMap (·.data.toList)).length=tot l
 | []=>rfl
 | a::l=>by
  rw [List.flatMap_cons,List.length_append,jdZ l,jbk]
  congr 1
theorem jds (l:List ByteArray):(jbR l).size=tot l:=by
 rw [← jdZ];show (l.flatMap (·.data.toList)).toArray.size=_;simp
theorem jkN {α:Type} (xs:List (List α)):([]:List α).intercalate xs=xs.flatten:=by
 unfold List.intercalate
 induction xs with
 | nil=>rfl
 | cons x l ih =>
  cases l with
  | nil=>simp
  | cons y l=>simp [ih]
theorem jl6 (l:List ByteArray):Lib.join (l.map (·.data.toList)) []=l.flatMap (·.data.toList):=by
 unfold Lib.join;rw [jkN,List.flatMap_def]
theorem jeX (base:Nat) (v:Value) (ss:List ByteArray) (w:World) (h:jew w base v ss) (hl:ss.length≤16777216) (ht:tot ss≤16777216) :
    Calls Tryz.prog 55 #[v,.string ⟨#[]⟩] w fun e w'=>e=.returned (.string (jbR ss))∧w.grownBy w' none:=by
     have hI:=h.isL (bytes:=16) jcr (by omega)
     cases ss with
     | nil =>
      obtain ⟨va,vc,rfl⟩:=h.form;refine (strings_Join_none va vc ⟨#[]⟩ w).mono ?_;rintro e w' ⟨rfl,rfl⟩;exact ⟨rfl,jae _⟩
     | cons x l =>
      obtain ⟨va,vc,rfl⟩:=h.form;obtain ⟨b,off,rfl⟩:=hI.addr (k:=0) (by simp)
      have hcap:(x::l).length≤vc:=by
       obtain ⟨ao,cap,e,h1,-⟩:=hI
       cases e
       exact h1
      have hb:b<w.heap.size:=by
       have:=World.ownsRow.lt h b (by simp [Value.ownBlock]);exact this.2
      have e0:(Lib.join ((x::l).map (·.data.toList)) (⟨#[]⟩ : ByteArray).data.toList)=(x::l).flatMap (·.data.toList):=jl6 (x::l)
      have key:=strings_Join b off vc (x::l) ⟨#[]⟩ w (fun j y hy=>by
       have hj:j<(x::l).length:=(List.getElem?_eq_some_iff.1 hy).1;have:=hI.at j hj 0 (by omega);rw [Nat.mul_one,Nat.add_zero] at this;rw [this];have e:(x::l)[j]=y:=by rw [List.getElem?_eq_getElem hj] at hy;exact Option.some.inj hy
       rw [e]
       rfl) hb (by omega) hcap (by rw [e0,jdZ];omega)
      rw [e0] at key;refine key.mono ?_;rintro e w' ⟨rfl,hB⟩;exact ⟨rfl,Wr.below_grown hB⟩
end Go.Proofs.YtbgbpfbjeleooaaGreat.Pd
namespace Go.Proofs.YtbgbpfbjeleooaaGreat.Pd
open Go.RowKit
open Wr (Fld)
theorem jhi:(Tryz.prog.info? 2).map (fun i=>(i.zero,i.size,i.bytes))=some (some (.int .i64 0),1,8):=by kernel_rfl
def O64 (w:World) (base:Nat) (v:Value) (zs:List Int):Prop :=
 w.ownsRow base 2 1 v zs.length (zs.map (Value.int .i64))∧zs.length*8≤140737488351232∧(∀ z∈zs,-9223372036854775808≤z∧z≤9223372036854775807)
theorem O64.nil (w:World) (base:Nat):O64 w base (.slice none 0 0) []:=⟨World.ownsRow_nil _ _ _ _,by simp,fun z hz=>by simp at hz⟩
theorem O64.form {w:World} {base:Nat} {v:Value} {zs:List Int} (h:O64 w base v zs):∃ a c,v=.slice a zs.length c:=jg8 h.1
theorem O64.ints {w:World} {base:Nat} {v:Value} {zs:List Int} (h:O64 w base v zs):jaj w v zs:=by
 obtain ⟨hr,hle,hwf⟩:=h;have hr0:=hr
 rcases hr.2 with ⟨rfl,h0⟩ | ⟨g,cap,cur,rfl,_,_,hnc,hcm,_,_⟩
 ·obtain rfl:zs=[]:=List.length_eq_zero_iff.1 h0;exact ⟨none,0,rfl,by simp,by simp,by simp,fun _=>⟨rfl,rfl⟩,fun h=>by simp at h,fun z hz=>by simp at hz⟩
 ·refine ⟨_,cap,rfl,hnc,by simpa [maxLen] using hcm,hle,(fun h=>by cases h),fun _=>⟨g,0,rfl,fun t ht=>?_⟩,hwf⟩;rw [Nat.zero_add,hr0.cellAt t (by omega)];simp [List.getD,ht]
theorem O64.more {w w':World} {base:Nat} {v:Value} {zs:List Int} (h:O64 w base v zs) {row:Option Nat} (hg:w.grownBy w' row) (hne:v.ownBlock=none∨v.ownBlock≠row):O64 w' base v zs:=⟨h.1.kept hg hne,h.2⟩
theorem O64.new {w w':World} {base:Nat} {v:Value} {zs:List Int} (h:O64 w base v zs) (hg:w.grownBy w' none):O64 w' base v zs:=h.more hg (by cases v.ownBlock <;> simp)
theorem O64.base_le {w:World} {base b':Nat} {v:Value} {zs:List Int} (h:O64 w base v zs) (hb:b'≤base):O64 w b' v zs:=by
 refine ⟨⟨h.1.1,?_⟩,h.2⟩
 rcases h.1.2 with h0 | ⟨g,cap,cur,e,hg,r⟩
 ·exact .inl h0
 ·exact .inr ⟨g,cap,cur,e,by omega,r⟩
def jdN (n:Nat) (v v':Value):Prop:=∀ b,v'.ownBlock=some b→v.ownBlock=some b∨n≤b
theorem jdN.refl (n:Nat) (v:Value):jdN n v v:=fun _ h=>.inl h
theorem jdN.trans {n m:Nat} {u v x:Value} (h:jdN n u v) (k:jdN m v x) (hnm:n≤m):jdN n u x:=fun b hb=>by
 rcases k b hb with h1 | h1
 ·exact h b h1
 ·exact .inr (by omega)
theorem jek {w : World} {ops : Array Oper} {rest : List Oper} {o : Oper} {a : Act} {Q : Exit → Act → World → Prop} (hgd : o.guard = none) (s x : Operand)
    (ho:o.op=.call { callee:=.builtin .append,args:=#[s,x],argTypes:=#[42,42] })
    (base:Nat) (v:Value) (zs:List Int) (hs:a.eval s=v) (hown:O64 w base v zs) (B c:Nat) (y:Int) (hx:a.eval x=.slice (some ⟨B,0,none⟩) 1 c) (hB:w.cell? ⟨B,0,none⟩=some (.int .i64 y))
    (hy : -9223372036854775808≤y∧y≤9223372036854775807) (hlen:zs.length≤100000000) (hbase:base≤w.heap.size)
    (h:∀ v' w',O64 w' base v' (zs++[y])→w.grownBy w' v.ownBlock→jdN w.heap.size v v'→wpList Tryz.prog ops Q rest (a.put o.dst v') w'):wpList Tryz.prog ops Q (o::rest) a w:=by
     obtain ⟨i0,hi,hz0,hz1,hz2⟩:=info_parts jhi;refine wpList_append_lies w hgd s x 42 ho base 2 i0 (.int .i64 0) 1 8 Tryz.underlying42 hi hz0 hz1 hz2 rfl (by decide) v _ _ hs hown.1 ⟨B,0,none⟩ 1 c [.int .i64 y] hx rfl ?_ (by simp [Value.oneCell']) (by decide) (by simp only [maxLen];omega) (by omega) hbase _ rfl ?_
     ·intro j u hu
      cases j with
      | zero=>cases hu;exact hB
      | succ j=>simp at hu
     ·intro g cap w' ho' hg hat _;refine h _ w' ⟨?_,?_,fun z hz=>?_⟩ hg (fun b e=>?_)
      ·rw [List.length_append,List.map_append];exact ho'
      ·rw [List.length_append,List.length_singleton];omega
      ·rcases List.mem_append.1 hz with h | h
       ·exact hown.2.2 z h
       ·simp at h;omega
      ·have e2:g=b:=by simpa [Value.ownBlock] using e
       subst e2
       rcases hat with h | h
       ·exact .inl h
       ·exact .inr (by omega)
theorem jd0 {w : World} (base : Nat) (t ty e : TypeId) (i : TypeInfo) (size c : Nat) (ad : Addr) (ht : Tryz.prog.underlying t = some (.slice e)) (hi : Tryz.prog.info? e = some i)
    (v:Value) (n:Nat) (xs:List Value) (hown:w.ownsRow base e size v n xs) :
    (Builtin.append_ #[t,t] ty #[v,.slice (some ad) 0 c]).run Tryz.prog w=.ok v w:=by
     rcases hown.2 with ⟨rfl,rfl⟩ | ⟨g,cap,cur,rfl,_,_,hnc,_⟩
     ·simp [Builtin.append_,run_underlying ht,sizeOf,typeInfo,hi,Builtin.lenOf,Builtin.firstCells,loadCells,loadCellsFrom,Result.andThen]
     ·simp [Builtin.append_,run_underlying ht,sizeOf,typeInfo,hi,Builtin.lenOf,Builtin.firstCells,hnc,storeCells,loadCells,loadCellsFrom,Result.andThen]
theorem jkO {w : World} {ops : Array Oper} {rest : List Oper} {o : Oper} {a : Act} {Q : Exit → Act → World → Prop} (hgd : o.guard = none) (s x : Operand)
    (ho:o.op=.call { callee:=.builtin .append,args:=#[s,x],argTypes:=#[42,42] })
    (base:Nat) (v:Value) (xs:List Int) (hs:a.eval s=v) (hown:O64 w base v xs) (xv:Value) (ys:List Int) (hx:a.eval x=xv) (hys:jaj w xv ys)
    (hbytes:xs.length+ys.length≤100000000) (hbase:base≤w.heap.size)
    (h:∀ v' w',O64 w' base v' (xs++ys)→w.grownBy w' v.ownBlock→jdN w.heap.size v v'→wpList Tryz.prog ops Q rest (a.put o.dst v') w'):wpList Tryz.prog ops Q (o::rest) a w:=by
     obtain ⟨i0,hi,hz0,hz1,hz2⟩:=info_parts jhi;obtain ⟨ao,cap,rfl,h1,h2,h3,h4,h5,h6⟩:=hys
     by_cases hl:0<ys.length
     ·obtain ⟨b,off,rfl,hc⟩:=h5 hl;refine wpList_append_lies w hgd s x 42 ho base 2 i0 (.int .i64 0) 1 8 Tryz.underlying42 hi hz0 hz1 hz2 rfl (by decide) v _ _ hs hown.1 ⟨b,off,none⟩ ys.length cap (ys.map (Value.int .i64)) hx (by simp) ?_ (fun u hu=>by obtain ⟨z,-,rfl⟩:=List.mem_map.1 hu;rfl) hl (by simp only [maxLen];omega) (by omega) hbase _ rfl ?_
      ·intro j u hu;have hj:j<ys.length:=by have:=(List.getElem?_eq_some_iff.1 hu).1;simpa using this
       have:=hc j hj;rw [Addr.add_lit,this];simp [hj] at hu ⊢;exact hu
      ·intro g cap' w' ho' hg hat _;refine h _ w' ⟨?_,?_,fun z hz=>?_⟩ hg (fun b e=>?_)
       ·rw [List.length_append,List.map_append];exact ho'
       ·rw [List.length_append];omega
       ·rcases List.mem_append.1 hz with h | h
        ·exact hown.2.2 z h
        ·exact h6 z h
       ·have e2:g=b:=by simpa [Value.ownBlock] using e
        subst e2
        rcases hat with h | h
        ·exact .inl h
        ·exact .inr (by omega)
     ·obtain rfl:ys=[]:=List.length_eq_zero_iff.1 (by omega)
      cases ao with
      | none =>
       obtain ⟨-,rfl⟩:=h4 rfl;refine wpList_append_own_none hgd s x 42 ho base 2 i0 1 Tryz.underlying42 hi v _ _ hs hown.1 hx ?_;exact h v w (by simpa using hown) (World.grownBy.refl _ _) (jdN.refl _ _)
      | some ad =>
       refine wpList_plain hgd fun K hK=>?_;have hrun:=jd0 (w:=w) base 42 o.type 2 i0 1 cap ad Tryz.underlying42 hi v _ _ hown.1;unfold Oper.wp;simp [execOp,ho,resolve,invoke,builtin,hs,hx,hrun,Result.andThen];exact hK _ _ (h v w (by simpa using hown) (World.grownBy.refl _ _) (jdN.refl _ _))
end Go.Proofs.YtbgbpfbjeleooaaGreat.Pd
namespace Go.Proofs.YtbgbpfbjeleooaaGreat.Pd
open Go.RowKit
open Wr (Fld)
def jjm (w:World) (base:Nat) (v:Value) (r:R (List Int)) (e:Ending) (w':World):Prop:=w.grownBy w' v.ownBlock∧match r with
 | .error c=>e=.panicked [{ v:=.iface 28 (.int .i64 c),recovered:=false }]
 | .ok zs=>∃ v',e=.returned v'∧O64 w' base v' zs∧jdN w.heap.size v v'
theorem jel {w w':World} {base:Nat} {v:Value} {r:R (List Int)} {c:Int} (h:r=.error c) (hg:w.grownBy w' v.ownBlock):jjm w base v r (.panicked [{ v:=.iface 28 (.int .i64 c),recovered:=false }]) w':=by
 rw [h];exact ⟨hg,rfl⟩
theorem jeY {w w':World} {base:Nat} {v v':Value} {r:R (List Int)} {zs:List Int} (h:r=.ok zs) (hg:w.grownBy w' v.ownBlock) (ho:O64 w' base v' zs) (hf:jdN w.heap.size v v'):jjm w base v r (.returned v') w':=by
 rw [h];exact ⟨hg,v',rfl,ho,hf⟩
theorem jaf {a b c:World} {row row2:Option Nat} (h:a.grownBy b row) (k:b.grownBy c row2) (hr:∀ g,row2=some g→row=some g∨a.heap.size≤g):a.grownBy c row :=
 ⟨k.os.trans h.os,k.tape.trans h.tape,k.output.trans h.output,Nat.le_trans h.size k.size,fun i hi hne=>(k.block i (Nat.lt_of_lt_of_le hi h.size) (fun e=>by
  rcases hr i e.symm with h1 | h1
  ·exact hne h1.symm
  ·omega)).trans (h.block i hi hne)⟩
theorem jeI {a b:World} {row:Option Nat} (h:a.grownBy b none):a.grownBy b row:=Wr.row_of_none row h
theorem jmS {s:ByteArray} {l:List Nat} (h:Wr.all (Wr.tk s) s.size=some l):l.length≤s.size:=by
 have:=jhf (item:=Wr.tk s) (fun h=>(Wr.tk_spec h).2.1) s.size 0 h;omega
theorem jhU {zs:List Int} {x:Fld} (hk:x.kind≠2):jbc zs x=(jbP x).bind fun y=>.ok (zs++[y]):=by unfold jbc;rw [if_pos hk]
theorem jhj {zs:List Int} {x:Fld} (hk:x.kind=2):jbc zs x=(jdU x.b).bind fun ys=>.ok (zs++ys):=by unfold jbc;rw [if_neg (by simp [hk])]
theorem jiI (u:Nat):(Wr.ncells u).length=1:=rfl
theorem jgO {α:Type} (xs:List α) (k:Nat) (h:k<xs.length):xs.take (k+1)=xs.take k++[xs[k]]:=by rw [List.take_succ_eq_append_getElem h]
theorem jdI (B base:Nat) (x:Fld) (v:Value) (zs:List Int) (w:World) (c1:w.cell? ⟨B,1,none⟩=some (.int .i64 x.kind)) (c2:w.cell? ⟨B,2,none⟩=some (.int .u64 x.u)) (c3:w.cell? ⟨B,3,none⟩=some (.string x.b)) (hv:O64 w base v zs) (hbase:base≤w.heap.size) (hl:zs.length≤50000000) (hb:x.b.size≤16777216) :
    Calls Tryz.prog 108 #[.pointer (some ⟨B,0,none⟩),v] w (jjm w base v (jbc zs x)):=by
     have HV:=jac hv;obtain ⟨va,vc,rfl⟩:=hv.form;clear hv
     by_cases hk:x.kind=2
     ·have b0:(x.kind != 2)=false:=by simp [hk]
      have E0:=jac (jhj (zs:=zs) hk);have PK:=jac (Wr.packed_any x.b w (by omega) (by omega));clear hk c2
      cases hp:Wr.all (Wr.tk x.b) x.b.size with
      | none =>
       have E:Hid (jbc zs x=.error 3):=by show _=_;rw [E0.out];unfold jdU;rw [hp];rfl
       have HP:=jac hp;clear hp;go_enter Tryz.func108,Tryz.ntmps108;go_wp2_with fail;refine PK.out.mono ?_;rintro e w1 ⟨pv,pe,rfl,hg,⟨xs,h1,-⟩ | ⟨-,rfl,-⟩⟩
       ·rw [HP.out] at h1;cases h1
       ·go_wp2_with (go_at_call 79;refine (jei _ (by decide) _).mono ?_;rintro e w' ⟨rfl,rfl⟩);exact ⟨rfl,jel E.out (jeI hg)⟩
      | some ps =>
       have E:Hid (jbc zs x=.ok (zs++ps.map fun (u:Nat)=>wrap64 (u:Int))):=by show _=_;rw [E0.out];unfold jdU;rw [hp];rfl
       have HP:=jac hp;have PL:=jac (jmS hp);clear hp;go_enter Tryz.func108,Tryz.ntmps108;go_wp2_with fail;refine PK.out.mono ?_;rintro e w1 ⟨pv,pe,rfl,hg,⟨xs,h1,rfl,ho⟩ | ⟨h1,-⟩⟩
       ·rw [HP.out] at h1;obtain rfl:ps=xs:=Option.some.inj h1;have hpl:=PL.out;have ho2:OwnsL 47 1 Wr.ncells w1 w.heap.size pv ps:=ho;obtain ⟨pa,pc,rfl⟩:=ho2.form;have IL:=jac (ho2.isL (bytes:=8) jiI (by omega));have LT:=jac (World.ownsRow.lt ho2);have VL:=jac (World.ownsRow.lt HV.out.1);have HG:=jac hg;have G0:=jac hg.size;clear h1 ho ho2 hg;go_wp2_with (go_at_call 79;refine (jgd _).mono ?_;rintro e w' ⟨rfl,rfl⟩);go_loopw [1,33] (fun lv i wr=>∃ k:Nat,k≤ps.length∧i=.int .i64 k∧w1.grownBy wr (Value.slice va zs.length vc).ownBlock∧O64 wr base lv (zs++(ps.take k).map fun (u:Nat)=>wrap64 (u:Int))∧jdN w1.heap.size (.slice va zs.length vc) lv) (fun _ i _=>ps.length - (intOf i).toNat)
        case atStart=>exact ⟨0,Nat.zero_le _,rfl,World.grownBy.refl _ _,by simpa using HV.out.new HG.out,jdN.refl _ _⟩
        case round =>
         obtain ⟨k,hk,rfl,hgr,hown,hfr⟩:=hrel;have HO:=jac hown;have HGR:=jac hgr;have HFR:=jac hfr
         by_cases hlt:k<ps.length
         ·have ILk := IL.out.kept (w' := wr) fun b hb' e => hgr.block b hb' (fun e2 => by
            have h1:=LT.out b e;have h2:=VL.out b e2.symm;omega)
          obtain ⟨pb,po,rfl⟩:=ILk.addr hlt;have a0:=ILk.at k hlt 0 (by omega);rw [Nat.mul_one,Nat.add_zero] at a0
          have HN:Hid (zs++(ps.take (k+1)).map (fun (u:Nat)=>wrap64 (u:Int))=(zs++(ps.take k).map (fun (u:Nat)=>wrap64 (u:Int)))++[wrap64 (ps[k]:Int)]):=by
           show _=_;rw [jgO ps k hlt,List.map_append,List.append_assoc]
           rfl
          have a0':wr.cell? ⟨pb,po+k,none⟩=some (.int .u64 (ps[k]:Nat)):=a0;obtain ⟨Y,hY⟩ : ∃ Y:Int,Y=(ps[k]:Nat):=⟨_,rfl⟩
          rw [← hY] at a0' HN;obtain ⟨L,hL⟩ : ∃ L,L=zs++(ps.take k).map (fun (u:Nat)=>wrap64 (u:Int)):=⟨_,rfl⟩
          have LL:Hid (L.length≤100000000):=by show L.length≤_;rw [hL,List.length_append,List.length_map,List.length_take];omega
          rw [← hL] at HO HN;have WB:Hid (base≤wr.heap.size):=Nat.le_trans (Nat.le_trans hbase G0.out) hgr.size;obtain ⟨la,lc,rfl⟩:=HO.out.form;clear ILk a0 hY hL hgr hown hfr;go_wp2_with (at_builtin;refine jek rfl (.tmp 37) (.tmp 40) rfl base _ L rfl (by exact HO.out.new (jab _ _)) wr.heap.size 1 (wrap64 Y) rfl (by simp) (jcV _) LL.out (by have:=WB.out;simp;omega) ?_;intro v' w8 hown' hgrow hfrom)
          have ST:Hid (w1.grownBy w8 (Value.slice va zs.length vc).ownBlock∧jdN w1.heap.size (.slice va zs.length vc) v'):=by
           refine ⟨jaf (jaf HGR.out (jab wr (.cells #[.int .i64 (wrap64 Y)] 2)) (by simp)) hgrow (fun g e=>HFR.out g e),HFR.out.trans hfrom (by have:=HGR.out.size;simp;omega)⟩
          have HO8:=jac hown';clear hown' hgrow hfrom
          go_roundw
          case rel=>exact ⟨k+1,by omega,by go_num,ST.out.1,by rw [HN.out];exact HO8.out,ST.out.2⟩
          case measure=>simp [intOf];omega
         ·obtain rfl:k=ps.length:=by omega
          rw [List.take_length] at HO;clear hgr hown hfr;obtain ⟨L,hL⟩ : ∃ L,L=zs++ps.map (fun (u:Nat)=>wrap64 (u:Int)):=⟨_,rfl⟩
          rw [← hL] at HO E;clear hL;obtain ⟨la,lc,rfl⟩:=HO.out.form;go_wp2;go_ret
          exact jeY E.out (jaf (jeI HG.out) HGR.out (fun g e=>.inl e)) HO.out (fun b e=>by
           rcases HFR.out b e with h | h
           ·exact .inl h
           ·exact .inr (by have:=G0.out;omega))
       ·rw [HP.out] at h1;cases h1
     ·have b0:(x.kind != 2)=true:=by simpa using hk
      have E0:=jac (jhU (zs:=zs) hk);have NM:=jac (jcW B x w c1 c2);clear hk c2 c3
      rcases jcq x with ⟨q,hx,hq⟩ | hx
      ·have E:Hid (jbc zs x=.ok (zs++[q])):=by show _=_;rw [E0.out,hx];rfl
       rw [hx] at NM;clear hx;go_enter Tryz.func108,Tryz.ntmps108;go_wp2_with fail;refine NM.out.mono ?_;rintro e w1 ⟨-,v,rfl,rfl,rfl⟩;go_wp2_with (at_builtin;refine jek rfl (.tmp 15) (.tmp 18) rfl base _ zs rfl (by exact HV.out.new (jab _ _)) w.heap.size 1 q rfl (by simp) hq (by omega) (by simp;omega) ?_;intro v' w8 hown' hgrow hfrom);obtain ⟨la,lc,hla⟩:=hown'.form;have HO8:=jac hown';have GR:=jac (jaf (jeI (jab w (.cells #[.int .i64 q] 2))) hgrow (fun g e=>.inl e))
       have FR:Hid (jdN w.heap.size (.slice va zs.length vc) v'):=fun b e=>by
        rcases hfrom b e with h | h
        ·exact .inl h
        ·exact .inr (by simp at h;omega)
       subst hla;clear hown' hgrow hfrom
       go_wp2;go_ret;exact jeY E.out GR.out HO8.out FR.out
      ·have E:Hid (jbc zs x=.error 3):=by show _=_;rw [E0.out,hx];rfl
       rw [hx] at NM;clear hx;go_enter Tryz.func108,Tryz.ntmps108;go_wp2_with fail;refine NM.out.mono ?_;rintro e w1 ⟨hg,rfl⟩;exact ⟨rfl,jel E.out (jeI hg)⟩
end Go.Proofs.YtbgbpfbjeleooaaGreat.Pd
namespace Go.Proofs.YtbgbpfbjeleooaaGreat.Pd
open Go.RowKit
open Wr (Fld)
theorem jn5 (s:ByteArray) (p i:Nat):Wr.bt (s.extract p s.size) i=Wr.bt s (p+i):=by
 unfold Wr.bt
 by_cases h:p+i<s.size
 ·rw [dif_pos h,dif_pos (by rw [ByteArray.size_extract];omega),ByteArray.getElem_extract]
 ·rw [dif_neg h,dif_neg (by rw [ByteArray.size_extract];omega)]
theorem jkP (s:ByteArray) (p:Nat):∀ n q,Wr.low (s.extract p s.size) q n=Wr.low s (p+q) n
 | 0,_=>rfl
 | n+1,q=>by
  simp only [Wr.low];rw [jn5,jkP s p n (q+1),Nat.add_assoc]
theorem jnq (s:ByteArray) (p k:Nat):(s.extract p s.size).extract k (s.extract p s.size).size=s.extract (p+k) s.size:=by
 rw [ByteArray.extract_extract,ByteArray.size_extract,Nat.min_self]
 congr 1
 omega
theorem jjn (s:ByteArray) (p:Nat):(s.extract p s.size).size=s.size - p:=by rw [ByteArray.size_extract,Nat.min_self]
theorem jl7 (s:ByteArray):s.extract 0 s.size=s:=ByteArray.extract_zero_size
theorem jgf (t:Int) (w:Nat) (s:ByteArray):∀ k p,jcY t w s (k+1) p=jcY t w s k p++[jbQ t (Wr.low s (p+k*w) w)]
 | 0,p=>by simp [jcY]
 | k+1,p=>by
  rw [jcY,jgf t w s k (p+w),jcY];have e:p+w+k*w=p+(k+1)*w:=by rw [Nat.succ_mul];omega
  rw [e]
  rfl
theorem jft (t:Int) (w:Nat) (s:ByteArray):∀ k p,(jcY t w s k p).length=k
 | 0,_=>rfl
 | k+1,p=>by simp only [jcY,List.length_cons];rw [jft t w s k]
theorem jhV (t u:Int) : -9223372036854775808≤jbQ t u∧jbQ t u≤9223372036854775807:=by
 unfold jbQ jbK
 split
 ·split
  ·exact jcV _
  ·decide
 ·split
  ·exact jcV _
  ·exact jcV _
theorem jfu (t:Int):ja4 t=1∨ja4 t=4∨ja4 t=8:=by
 unfold ja4
 split
 ·exact .inr (.inl rfl)
 ·split
  ·exact .inr (.inr rfl)
  ·exact .inl rfl
theorem jkQ (n:Nat) (hn:n≤100000000):∃ M:Array Value,(∀ W:World,(Instr.makeSlice 42 (.int .i64 0) (.int .i64 (n:Int))).run Tryz.prog W=.ok (.slice (some ⟨W.heap.size,0,none⟩) 0 n) (W.alloc (.cells M 2))) ∧
    ∀ (W:World) (base:Nat),base≤W.heap.size→O64 (W.alloc (.cells M 2)) base (.slice (some ⟨W.heap.size,0,none⟩) 0 n) []:=by
     obtain ⟨j0,hj,jz0,jz1,jz2⟩:=info_parts jhi;obtain ⟨M1,hM1⟩ : ∃ M,M=madeCells (Value.int .i64 0).cells (((n:Nat):Int).toNat*j0.size):=⟨_,rfl⟩
     have E1:M1.toList=(madeCells (Value.int .i64 0).cells (n*1)).toList:=by rw [hM1,jz1];simp
     have E2:M1.size=n:=by rw [← Array.length_toList,E1,show (Value.int .i64 0).cells=#[Value.int .i64 0] from rfl,toList_madeCells_one];simp
     refine ⟨M1,fun W=>?_,fun W base hb=>?_⟩
     ·have h:=Go.run_make (P:=Tryz.prog) W 42 2 j0 (.int .i64 0) Tryz.underlying42 hj jz0 .i64 .i64 0 (n:Int) (by omega) (by omega) (by rw [jz2];omega) (by omega);rw [← hM1] at h;simpa using h
     ·refine ⟨⟨by simp,Or.inr ⟨W.heap.size,n,M1,rfl,hb,heap_alloc_new W _,Nat.zero_le _,by simp only [maxLen];omega,by rw [E2,Nat.mul_one],by simp⟩⟩,by simp,fun z hz=>by simp at hz⟩
theorem jem {T:ByteArray} (h:0<T.size):T.toList.isEmpty=false:=by
 rw [ByteArray.toList_eq,List.isEmpty_eq_false_iff];intro e;have h1:T.data.toList.length=0:=by rw [e];rfl
 rw [Array.length_toList] at h1;have h2:T.size=T.data.size:=rfl;omega
theorem jjo {T:ByteArray} (h:T.size=0):T.toList.isEmpty=true:=by
 rw [ByteArray.toList_eq,List.isEmpty_iff];exact List.length_eq_zero_iff.1 h
def jmT:Value→Nat
 | .string s=>s.size
 | _=>0
theorem O64.ge {w:World} {base g:Nat} {v:Value} {zs:List Int} (h:O64 w base v zs) (e:v.ownBlock=some g):base≤g:=by
 rcases h.1.2 with ⟨rfl,-⟩ | ⟨g',cap,cur,rfl,hg,r⟩
 ·cases e
 ·cases e
  exact hg
theorem jfD (t:Int) (s:ByteArray) (w:World) (hs:s.size≤16777216) :
    Calls Tryz.prog 138 #[.int .i64 t,.string s] w fun e w'=>w.grownBy w' none∧∃ v,e=.returned v∧O64 w' w.heap.size v (jbH t s):=by
     have WD:=jac (fun wx=>jhT t wx);have EL:=jac (fun (u:Int) wx=>jiG t u wx);have HW:=jfu t;have E:Hid (jbH t s=if s.size % ja4 t=0 then jcY t (ja4 t) s (s.size / ja4 t) 0 else []):=rfl;obtain ⟨W,hW⟩ : ∃ W,W=ja4 t:=⟨_,rfl⟩
     rw [← hW] at WD HW E;clear hW;have W1:1≤W:=by omega
     have W8:W≤8:=by omega
     have W0:¬ ((W:Int)=0):=by omega
     clear HW;have RM:((s.size:Int)).tmod (W:Int)=((s.size % W:Nat):Int):=by rw [Int.tmod_eq_emod_of_nonneg (by omega)];rfl
     have QU:((s.size:Int)).tdiv (W:Int)=((s.size / W:Nat):Int):=by rw [Int.tdiv_eq_ediv_of_nonneg (by omega)];rfl
     by_cases hm:s.size % W=0
     ·obtain ⟨n,hn⟩ : ∃ n,n=s.size / W:=⟨_,rfl⟩
      have HN:Hid (s.size=n*W):=by
       show _=_;rw [hn];have:=Nat.div_add_mod s.size W;rw [hm,Nat.mul_comm] at this;omega
      have Hn:n≤16777216:=by
       have:=Nat.div_le_self s.size W;omega
      have E':Hid (jbH t s=jcY t W s n 0):=by show _=_;rw [E.out,if_pos hm,hn]
      rw [hm] at RM;rw [← hn] at QU;clear E hn hm;obtain ⟨M,mk0,mk1⟩:=jkQ n (by omega);have MK1:=jac mk1;have GM:=jac (jab w (.cells M 2));clear mk1;go_enter Tryz.func138,Tryz.ntmps138;go_wp2_with (go_at_call 157;refine (WD.out _).mono ?_;rintro e w' ⟨rfl,rfl⟩);clear mk0 RM QU;go_loopw [1,6] (fun sv lv wr=>∃ k:Nat,k≤n∧sv=.string (s.extract (k*W) s.size)∧O64 wr w.heap.size lv (jcY t W s k 0)∧w.grownBy wr none) (fun sv _ _=>jmT sv)
      case atStart=>exact ⟨0,Nat.zero_le _,by rw [Nat.zero_mul,jl7],MK1.out w _ (Nat.le_refl _),GM.out⟩
      case round =>
       obtain ⟨k,hk,rfl,hown,hg⟩:=hrel;rename_i wr;have HO:=jac hown;have HG:=jac hg;have LN:=jac (jft t W s k 0);obtain ⟨la,lc,rfl⟩:=hown.form;have EX:=jac (jnq s (k*W) W);have LX:=jac (jkP s (k*W) W 0);have TS:=jjn s (k*W);obtain ⟨T,hT⟩ : ∃ T,T=s.extract (k*W) s.size:=⟨_,rfl⟩
       rw [← hT] at EX LX TS ⊢;have TL:Hid (T.size≤16777216):=by show T.size≤_;omega
       by_cases hlt:k<n
       ·have TW : W ≤ T.size := by
          have h1:=Nat.mul_le_mul_right W (show k+1≤n from hlt);have h2:=HN.out;rw [Nat.succ_mul] at h1;omega
        have b0:T.toList.isEmpty=false:=jem (by omega);have TWI:(W:Int)≤(T.size:Int):=by omega
        have SN:=jac (jgf t W s k 0);have LL:Hid ((jcY t W s k 0).length≤100000000):=by show _≤_;rw [LN.out];omega
        obtain ⟨L,hL⟩ : ∃ L,L=jcY t W s k 0:=⟨_,rfl⟩
        rw [← hL] at HO SN LL ⊢;have WB:Hid (w.heap.size≤wr.heap.size):=HG.out.size;have TZ:=jac TS;clear hown hg hT TS hL LN;go_wp2
        go_loop [7,27] (fun u i=>∃ j:Nat,j≤W∧i=.int .i64 j∧u=.int .u64 (Wr.low T 0 j)) (fun _ i=>W - (intOf i).toNat)
        case atStart=>exact ⟨0,Nat.zero_le _,rfl,rfl⟩
        case round =>
         obtain ⟨j,hj,rfl,rfl⟩:=hrel
         by_cases hjl:j<W
         ·have hat:=Wr.bt_at T j (by omega);have hbt:=Wr.bt_lt T j;have HR:=jac (Wr.or_low T 0 j (by omega));rw [Nat.zero_add] at HR;go_wp2;rw [HR.out]
          go_round
          case rel=>exact ⟨j+1,by omega,by go_num,rfl⟩
          case measure=>simp [intOf];omega
         ·obtain rfl:j=W:=by omega
          rw [LX.out];go_wp2_with (first | (go_at_call 158;refine (EL.out _ _).mono ?_;rintro e w' ⟨rfl,rfl⟩) | (at_builtin;refine jek rfl (.tmp 40) (.tmp 44) rfl w.heap.size _ L rfl (by exact HO.out.new (jab _ _)) wr.heap.size 1 (jbQ t (Wr.low s (k*j) j:Nat)) rfl (by simp) (jhV _ _) LL.out (by have:=WB.out;simp;omega) ?_;intro v' w8 hown' hgrow hfrom));rw [EX.out];have H8:=jac hown';have GW:=jac (jaf (jaf HG.out (jab wr (.cells #[.int .i64 (jbQ t (Wr.low s (k*j) j:Nat))] 2)) (by simp)) hgrow (fun g e=>.inr (HO.out.ge e)));clear hgrow hown' hfrom
          go_roundw
          case rel=>exact ⟨k+1,by omega,by rw [Nat.succ_mul],by rw [SN.out,Nat.zero_add];exact H8.out,GW.out⟩
          case measure =>
           simp only [jmT];rw [jjn];have:=TZ.out;omega
       ·have b0 : T.toList.isEmpty = true := jjo (by
          obtain rfl:k=n:=by omega
          have:=HN.out;omega)
        obtain rfl:k=n:=by omega
        clear hown hg hT TS;go_wp2;go_ret;exact ⟨HG.out,_,rfl,by rw [E'.out];exact HO.out⟩
     ·have E':Hid (jbH t s=[]):=by show _=_;rw [E.out,if_neg hm]
      have HM:Hid (¬ s.size % W=0):=hm;obtain ⟨m,hmm⟩ : ∃ m,m=s.size % W:=⟨_,rfl⟩
      rw [← hmm] at RM hm;have b0:(((m:Nat):Int) != 0)=true:=by simpa using hm
      clear E hm HM hmm;go_enter Tryz.func138,Tryz.ntmps138;go_wp2_with (go_at_call 157;refine (WD.out _).mono ?_;rintro e w' ⟨rfl,rfl⟩);go_ret;exact ⟨jae _,_,rfl,by rw [E'.out];exact O64.nil _ _⟩
end Go.Proofs.YtbgbpfbjeleooaaGreat.Pd
namespace Go.Proofs.YtbgbpfbjeleooaaGreat.Pd
open Go.RowKit
open Wr (Fld)
theorem jiJ {zs:List Int} {x:Fld} (hk:x.kind≠2):jca zs x=(jcX x).bind fun y=>.ok (zs++[y]):=by unfold jca;rw [if_pos hk]
theorem jhW {zs:List Int} {x:Fld} (hk:x.kind=2):jca zs x=(jal (decide (x.b.size % 4≠0)) 3).bind fun _=>.ok (zs++jbH 1 x.b):=by unfold jca;rw [if_neg (by simp [hk])]
theorem jjX (b:Int) (h : -9223372036854775808≤b∧b≤9223372036854775807) : -9223372036854775808≤jbK b∧jbK b≤9223372036854775807:=by
 unfold jbK
 split
 ·exact h
 ·decide
theorem jgg (x:Fld):(∃ y,jcX x=.ok y ∧ -9223372036854775808≤y∧y≤9223372036854775807)∨jcX x=.error 3:=by
 unfold jcX
 rcases jb5 x 5 with h | h
 ·rw [h];exact .inl ⟨_,rfl,jjX _ (jcV _)⟩
 ·rw [h];exact .inr rfl
theorem jeZ (t:Int) (s:ByteArray):(jbH t s).length≤s.size:=by
 unfold jbH
 split
 ·rw [jft];exact Nat.div_le_self _ _
 ·simp
theorem jjY (B base:Nat) (x:Fld) (v:Value) (zs:List Int) (w:World) (c1:w.cell? ⟨B,1,none⟩=some (.int .i64 x.kind)) (c2:w.cell? ⟨B,2,none⟩=some (.int .u64 x.u)) (c3:w.cell? ⟨B,3,none⟩=some (.string x.b)) (hv:O64 w base v zs) (hbase:base≤w.heap.size) (hl:zs.length≤50000000) (hb:x.b.size≤16777216) :
    Calls Tryz.prog 111 #[.pointer (some ⟨B,0,none⟩),v] w (jjm w base v (jca zs x)):=by
     have HV:=jac hv;obtain ⟨va,vc,rfl⟩:=hv.form;clear hv
     by_cases hk:x.kind=2
     ·have b0:(x.kind != 2)=false:=by simp [hk]
      have E0:=jac (jhW (zs:=zs) hk);have EL:=jac (jfD 1 x.b w hb);have LE:=jac (jeZ 1 x.b);have RM:((x.b.size:Int)).tmod 4=((x.b.size % 4:Nat):Int):=by rw [Int.tmod_eq_emod_of_nonneg (by omega)];rfl
      clear hk c2;obtain ⟨m,hm⟩ : ∃ m,m=x.b.size % 4:=⟨_,rfl⟩
      rw [← hm] at RM E0;clear hm
      by_cases h0:m=0
      ·subst h0;have E:Hid (jca zs x=.ok (zs++jbH 1 x.b)):=by show _=_;rw [E0.out];rfl
       clear E0;obtain ⟨ys,hys⟩ : ∃ ys,ys=jbH 1 x.b:=⟨_,rfl⟩
       rw [← hys] at E EL LE;clear hys;go_enter Tryz.func111,Tryz.ntmps111;go_wp2_with (first | (go_at_call 53;refine (jaM _ _).mono ?_;rintro e w' ⟨rfl,rfl⟩) | fail);refine EL.out.mono ?_;rintro e w1 ⟨hg,v1,rfl,ho⟩;have G1:=jac hg;have IE:=jac ho.ints;obtain ⟨ya,yc,rfl⟩:=ho.form;clear hg ho;go_wp2_with (at_builtin;refine jkO rfl (.tmp 25) (.tmp 31) rfl base _ zs rfl (by exact HV.out.new G1.out) _ ys rfl IE.out (by have:=LE.out;omega) (by have:=G1.out.size;omega) ?_;intro v' w8 hown' hgrow hfrom);obtain ⟨la,lc,hla⟩:=hown'.form;have HO8:=jac hown';have GR:=jac (jaf (jeI G1.out) hgrow (fun g e=>.inl e))
       have FR:Hid (jdN w.heap.size (.slice va zs.length vc) v'):=fun b e=>by
        rcases hfrom b e with h | h
        ·exact .inl h
        ·exact .inr (by have:=G1.out.size;omega)
       subst hla;clear hown' hgrow hfrom
       go_wp2;go_ret;exact jeY E.out GR.out HO8.out FR.out
      ·have E:Hid (jca zs x=.error 3):=by show _=_;rw [E0.out,show decide (m≠0)=true by simpa using h0];rfl
       have b1:(((m:Nat):Int) != 0)=true:=by simpa using h0
       clear E0 h0;go_enter Tryz.func111,Tryz.ntmps111;go_wp2_with (go_at_call 53;refine (jaD _ _).mono ?_;rintro e w' ⟨rfl,rfl⟩);exact ⟨rfl,jel E.out (World.grownBy.refl _ _)⟩
     ·have b0:(x.kind != 2)=true:=by simpa using hk
      have E0:=jac (jiJ (zs:=zs) hk);have NM:=jac (jhS B x w c1 c2);clear hk c2 c3
      rcases jgg x with ⟨q,hx,hq⟩ | hx
      ·have E:Hid (jca zs x=.ok (zs++[q])):=by show _=_;rw [E0.out,hx];rfl
       rw [hx] at NM;clear hx;go_enter Tryz.func111,Tryz.ntmps111;go_wp2_with fail;refine NM.out.mono ?_;rintro e w1 ⟨-,v,rfl,rfl,rfl⟩;go_wp2_with (at_builtin;refine jek rfl (.tmp 11) (.tmp 14) rfl base _ zs rfl (by exact HV.out.new (jab _ _)) w.heap.size 1 q rfl (by simp) hq (by omega) (by simp;omega) ?_;intro v' w8 hown' hgrow hfrom);obtain ⟨la,lc,hla⟩:=hown'.form;have HO8:=jac hown';have GR:=jac (jaf (jeI (jab w (.cells #[.int .i64 q] 2))) hgrow (fun g e=>.inl e))
       have FR:Hid (jdN w.heap.size (.slice va zs.length vc) v'):=fun b e=>by
        rcases hfrom b e with h | h
        ·exact .inl h
        ·exact .inr (by simp at h;omega)
       subst hla;clear hown' hgrow hfrom
       go_wp2;go_ret;exact jeY E.out GR.out HO8.out FR.out
      ·have E:Hid (jca zs x=.error 3):=by show _=_;rw [E0.out,hx];rfl
       rw [hx] at NM;clear hx;go_enter Tryz.func111,Tryz.ntmps111;go_wp2_with fail;refine NM.out.mono ?_;rintro e w1 ⟨hg,rfl⟩;exact ⟨rfl,jel E.out (jeI hg)⟩
end Go.Proofs.YtbgbpfbjeleooaaGreat.Pd
namespace Go.Proofs.YtbgbpfbjeleooaaGreat.Pd
open Go.RowKit
open Wr (Fld)
theorem jjZ (n:Nat) (hn:n≤100000000):∃ M:Array Value,(∀ W:World,(Instr.makeSlice 41 (.int .i64 (n:Int)) (.int .i64 (n:Int))).run Tryz.prog W=.ok (.slice (some ⟨W.heap.size,0,none⟩) n n) (W.alloc (.cells M 3))) ∧
    ∀ (W:World) (base:Nat),base≤W.heap.size→jeR (W.alloc (.cells M 3)) base (.slice (some ⟨W.heap.size,0,none⟩) n n) (List.replicate n 0):=by
     obtain ⟨j0,hj,jz0,jz1,jz2⟩:=info_parts jiy;obtain ⟨M1,hM1⟩ : ∃ M,M=madeCells (Value.int .i64 0).cells (((n:Nat):Int).toNat*j0.size):=⟨_,rfl⟩
     have E1:M1.toList=List.replicate n (.int .i64 0):=by rw [hM1,jz1,Nat.mul_one,show (Value.int .i64 0).cells=#[Value.int .i64 0] from rfl,toList_madeCells_one];simp
     refine ⟨M1,fun W=>?_,fun W base hb=>?_⟩
     ·have h:=Go.run_make (P:=Tryz.prog) W 41 3 j0 (.int .i64 0) Tryz.underlying41 hj jz0 .i64 .i64 (n:Int) (n:Int) (by omega) (by omega) (by rw [jz2];omega) (by omega);rw [← hM1] at h;simpa using h
     ·unfold jeR;rw [List.length_replicate,List.map_replicate];refine ⟨⟨by simp,Or.inr ⟨W.heap.size,n,M1,rfl,hb,heap_alloc_new W _,Nat.le_refl _,by simp only [maxLen];omega,?_,?_⟩⟩,by omega,fun z hz=>?_⟩
      ·rw [← Array.length_toList,E1,List.length_replicate,Nat.mul_one]
      ·rw [E1,List.take_of_length_le (by simp)]
      ·rw [(List.mem_replicate.1 hz).2]
       decide
theorem jkR {w:World} {base g n c:Nat} {zs:List Int} (h:jeR w base (.slice (some ⟨g,0,none⟩) n c) zs) (hn:zs.length=n) {k:Nat} (hk:k<n) (z:Int) (hz : -9223372036854775808≤z∧z≤9223372036854775807) :
    w.cell? ⟨g,k,none⟩=some (.int .i64 (zs.getD k 0))∧w.frozen? ⟨g,k,none⟩=false∧jeR (w.setCell ⟨g,k,none⟩ (.int .i64 z)) base (.slice (some ⟨g,0,none⟩) n c) (zs.set k z)∧w.grownBy (w.setCell ⟨g,k,none⟩ (.int .i64 z)) (some g):=by
     subst hn;have hr:=h.1;obtain ⟨s1,s2⟩:=hr.stored k (.int .i64 z);refine ⟨?_,hr.frozenAt k,⟨?_,by rw [List.length_set];exact h.2.1,fun y hy=>?_⟩,s2⟩
     ·rw [hr.cellAt k (by omega)];simp [List.getD,hk]
     ·rw [List.length_set,List.map_set];exact s1
     ·rcases List.mem_or_eq_of_mem_set hy with hy | rfl
      ·exact h.2.2 y hy
      ·exact hz
def jgh (l:List Int) (k:Nat):List Int:=l.take k++List.replicate (l.length - k) 0
theorem jhX (l:List Int) (k:Nat) (h:k≤l.length):(jgh l k).length=l.length:=by unfold jgh;simp;omega
theorem jgP (l:List Int):jgh l 0=List.replicate l.length 0:=by unfold jgh;simp
theorem jhY (l:List Int):jgh l l.length=l:=by unfold jgh;simp
theorem jhZ (l:List Int) (k:Nat) (h:k<l.length):(jgh l k).set k (l.getD k 0)=jgh l (k+1):=by
 unfold jgh;rw [List.set_append_right _ _ (by simp;omega),jgO l k h,List.append_assoc]
 congr 1
 have e:l.length - k=(l.length - (k+1))+1:=by omega
 rw [List.length_take,e,List.replicate_succ,Nat.min_eq_left (by omega),Nat.sub_self,List.set_cons_zero];simp [List.getD,h]
theorem jj0 (v:Value) (l:List Int) (w:World) (hv:jaj w v l) (hl:l.length≤100000000) :
    Calls Tryz.prog 112 #[v] w fun e w'=>w.grownBy w' none∧∃ u:Sl,e=.returned u.v∧jeR w' w.heap.size u.v l:=by
     have HV:=jac hv;obtain ⟨ao,cap,rfl,c1,c2,c3,c4,c5,c6⟩:=hv;obtain ⟨M,mk0,mk1⟩:=jjZ l.length hl;have GM:=jac (jab w (.cells M 3));have MK1:=jac (mk1 w w.heap.size (Nat.le_refl _));rw [← jgP] at MK1
     have C5:Hid (∀ wx,w.grownBy wx none→0<l.length→∃ b off,ao=some ⟨b,off,none⟩∧∀ t,t<l.length→wx.cell? ⟨b,off+t,none⟩=some (.int .i64 (l.getD t 0))):=fun wx hx hp=>by
      obtain ⟨ao',cap',e,-,-,-,-,h5,-⟩:=HV.out.more hx
      cases e
      exact h5 hp
     have C6:=jac c6;obtain ⟨n,hn⟩ : ∃ n,n=l.length:=⟨_,rfl⟩
     have HN:=jac hn;rw [← hn] at c1 c3 hl mk0 MK1 ⊢;have TI:=jac (fun (x:Int) (wx:World) (hx : -9223372036854775808≤x∧x≤9223372036854775807)=>jdW x wx hx);clear mk1 c4 c5 c6 hn HV;go_enter Tryz.func112,Tryz.ntmps112;go_wp2;go_loopw [11] (fun iv wr=>∃ k:Nat,k≤n∧iv=.int .i64 k∧jeR wr w.heap.size (.slice (some ⟨w.heap.size,0,none⟩) n n) (jgh l k)∧w.grownBy wr none) (fun iv _=>n - (intOf iv).toNat)
     case atStart=>exact ⟨0,Nat.zero_le _,rfl,MK1.out,GM.out⟩
     case round =>
      obtain ⟨k,hk,rfl,hown,hg⟩:=hrel;rename_i wr;have HO:=jac hown;have HG:=jac hg
      by_cases hlt:k<n
      ·obtain ⟨b,off,rfl,hc⟩:=C5.out wr hg (by have:=HN.out;omega);have a0:wr.cell? ⟨b,off+k,none⟩=some (.int .i64 (l.getD k 0)):=hc k (by have:=HN.out;omega)
       have HK:Hid (l.getD k 0∈l):=by
        show l.getD k 0∈l;have:=HN.out;rw [List.getD,List.getElem?_eq_getElem (by omega)];exact List.getElem_mem _
       have RX:=jac (C6.out _ HK.out);have SET:=jac (jhZ l k (by have:=HN.out;omega));have LF:=jac (jhX l k (by have:=HN.out;omega));obtain ⟨x,hx⟩ : ∃ x,x=l.getD k 0:=⟨_,rfl⟩
       rw [← hx] at a0 RX SET;obtain ⟨q0,q1,q2,q3⟩:=jkR hown (by rw [LF.out,HN.out]) hlt x RX.out;have Q2:=jac q2;have Q3:=jac q3;clear hown hg hc hx q2 q3;go_wp2_with (go_at_call 109;refine (TI.out _ _ RX.out).mono ?_;rintro e w' ⟨rfl,rfl⟩);have GW:=jac (jaf (row:=none) HG.out Q3.out (fun g e=>by cases e;exact .inr (Nat.le_refl _)));go_roundw
       case rel=>exact ⟨k+1,by omega,by go_num,by rw [← SET.out];exact Q2.out,GW.out⟩
       case measure=>simp [intOf];omega
      ·obtain rfl:k=n:=by omega
       rw [HN.out,jhY,← HN.out] at HO;clear hown hg;go_wp2;go_ret;exact ⟨HG.out,⟨some ⟨w.heap.size,0,none⟩,k,k⟩,rfl,HO.out⟩
end Go.Proofs.YtbgbpfbjeleooaaGreat.Pd
namespace Go.Proofs.YtbgbpfbjeleooaaGreat.Pd
open Go.RowKit
open Wr (Fld)
structure Prt where
 fl:List Int
 i32:List Int
 i64:List Int
 raw:ByteArray
def jdT (t:Int) (p:Prt):List Int:=if p.raw.size≠0 then jbH t p.raw else if t=1 then p.fl else if t=7 then p.i64 else p.i32
theorem jl8 (t:Int) (p:Prt) (a b c:Value) (base:Nat) (w:World) (ha:O64 w base a p.fl) (hb:O64 w base b p.i32) (hc:O64 w base c p.i64) (hr:p.raw.size≤16777216) (hbase:base≤w.heap.size) :
    Calls Tryz.prog 113 #[.agg #[a,b,c,.string p.raw],.int .i64 t] w fun e w'=>w.grownBy w' none∧∃ v,e=.returned v∧O64 w' base v (jdT t p):=by
     obtain ⟨fl,i32,i64,raw⟩:=p;simp only at ha hb hc hr;have HA:=jac ha;have HB:=jac hb;have HC:=jac hc;obtain ⟨aa,ac,rfl⟩:=ha.form;obtain ⟨ba,bc,rfl⟩:=hb.form;obtain ⟨ca,cc,rfl⟩:=hc.form;obtain ⟨nf,hnf⟩ : ∃ n,n=fl.length:=⟨_,rfl⟩
     obtain ⟨n3,hn3⟩ : ∃ n,n=i32.length:=⟨_,rfl⟩
     obtain ⟨n6,hn6⟩ : ∃ n,n=i64.length:=⟨_,rfl⟩
     rw [← hnf] at HA ⊢;rw [← hn3] at HB ⊢;rw [← hn6] at HC ⊢;clear ha hb hc hnf hn3 hn6;have G0:=jac (jab w (.cells #[.slice aa nf ac,.slice ba n3 bc,.slice ca n6 cc,.string raw] 166))
     by_cases h0:raw.size=0
     ·have b0:raw.toList.isEmpty=true:=jjo h0;have E:Hid (jdT t ⟨fl,i32,i64,raw⟩=if t=1 then fl else if t=7 then i64 else i32):=by show _=_;unfold jdT;rw [if_neg (by simpa using h0)]
      clear h0 hr
      by_cases h1:t=1
      ·subst h1;go_enter Tryz.func113,Tryz.ntmps113;go_wp2;go_ret;exact ⟨G0.out,_,rfl,by rw [E.out,if_pos trivial];exact HA.out.new G0.out⟩
      ·by_cases h7:t=7
       ·subst h7;go_enter Tryz.func113,Tryz.ntmps113;go_wp2;go_ret;exact ⟨G0.out,_,rfl,by rw [E.out,if_pos trivial];exact HC.out.new G0.out⟩
       ·rw [if_neg h1,if_neg h7] at E;have e1:(t==1)=false:=by simpa using h1
        have e7:(t==7)=false:=by simpa using h7
        clear h1 h7;go_enter Tryz.func113,Tryz.ntmps113;go_wp2;go_ret;exact ⟨G0.out,_,rfl,by rw [E.out];exact HB.out.new G0.out⟩
     ·have b0:raw.toList.isEmpty=false:=jem (by omega);have E:Hid (jdT t ⟨fl,i32,i64,raw⟩=jbH t raw):=by show _=_;unfold jdT;rw [if_pos h0]
      have EL:=jac (fun wx=>jfD t raw wx hr);clear h0 hr HA HB HC;go_enter Tryz.func113,Tryz.ntmps113;go_wp2_with fail;refine (EL.out _).mono ?_;rintro e w1 ⟨hg,v1,rfl,ho⟩;have G1:=jac hg;have HO:=jac ho;obtain ⟨ya,yc,rfl⟩:=ho.form;clear hg ho;go_wp2;go_ret;exact ⟨jaf (row:=none) G0.out G1.out (fun g e=>by cases e),_,rfl,by rw [E.out];exact HO.out.base_le (by have:=G0.out.size;omega)⟩
end Go.Proofs.YtbgbpfbjeleooaaGreat.Pd
namespace Go.Proofs.YtbgbpfbjeleooaaGreat.Pd
open Go.RowKit
open Wr (Fld)
def jas (xs:List ByteArray):Bool:=xs.any fun s=>decide (100<s.size)
theorem jj1 {xs:List ByteArray} {k:Nat} (hk:k<xs.length) (h:jas (xs.take k)=false) (h2:¬ 100<xs[k].size):jas (xs.take (k+1))=false:=by
 unfold jas at h ⊢;rw [take_snocS xs k hk,List.any_append,h];simpa using h2
where take_snocS {α:Type} (xs:List α) (k:Nat) (h:k<xs.length):xs.take (k+1)=xs.take k++[xs[k]]:=by rw [List.take_succ_eq_append_getElem h]
theorem jkS {xs:List ByteArray} {k:Nat} (hk:k<xs.length) (h2:100<xs[k].size):jas xs=true:=by
 unfold jas;rw [List.any_eq_true];exact ⟨xs[k],List.getElem_mem hk,by simpa using h2⟩
theorem jci {w:World} {B:Nat} {t:TypeId} {s:ByteArray} (hb:w.heap[B]?=some (.cells #[.string s] t (0,0))):IsL 16 1 jbg w (.slice (some ⟨B,0,none⟩) 1 1) [s]:=by
 refine ⟨_,1,rfl,by simp,by decide,by simp,(fun h=>by cases h),fun _=>⟨B,0,rfl,fun k hk j hj=>?_⟩⟩;obtain rfl:k=0:=by simp at hk;omega
 obtain rfl:j=0:=by omega
 exact ⟨cell_of_row _ _ 0 _ _ (0,0) hb,by simp [jbg]⟩
theorem jfv {w:World} {B:Nat} {t:TypeId} {s0 s1 s2:ByteArray} (hb:w.heap[B]?=some (.cells #[.string s0,.string s1,.string s2] t (0,0))):IsL 16 1 jbg w (.slice (some ⟨B,0,none⟩) 3 3) [s0,s1,s2]:=by
 refine ⟨_,3,rfl,by simp,by decide,by simp,(fun h=>by cases h),fun _=>⟨B,0,rfl,fun k hk j hj=>?_⟩⟩;obtain rfl:j=0:=by omega
 have h3:k=0∨k=1∨k=2:=by simp at hk;omega
 rcases h3 with rfl | rfl | rfl
 ·exact ⟨cell_of_row _ _ 0 _ _ (0,0) hb,by simp [jbg]⟩
 ·exact ⟨cell_of_row _ _ 1 _ _ (0,0) hb,by simp [jbg]⟩
 ·exact ⟨cell_of_row _ _ 2 _ _ (0,0) hb,by simp [jbg]⟩
theorem jaN (v:Value) (xs:List ByteArray) (w:World) (hv:IsL 16 1 jbg w v xs) :
    Calls Tryz.prog 65 #[v] w fun e w'=>e=.returned (.bool (jas xs))∧w=w':=by
     have HV:=jac hv;obtain ⟨ao,cap,rfl,c1,c2,c3,-,-⟩:=hv
     have C5:Hid (0<xs.length→∃ b off,ao=some ⟨b,off,none⟩∧∀ t (h:t<xs.length),w.cell? ⟨b,off+t,none⟩=some (.string xs[t])):=fun hp=>by
      obtain ⟨ao',cap',e,-,-,-,-,h5⟩:=HV.out
      cases e
      obtain ⟨b,off,rfl,hc⟩:=h5 hp;refine ⟨b,off,rfl,fun t ht=>?_⟩;have:=(hc t ht 0 (by omega)).1;rw [Nat.mul_one,Nat.add_zero] at this;rw [this]
      rfl
     clear HV;obtain ⟨n,hn⟩ : ∃ n,n=xs.length:=⟨_,rfl⟩
     have HN:=jac hn;rw [← hn] at c1 c3 ⊢;clear hn;go_enter Tryz.func65,Tryz.ntmps65;go_wp2
     go_loop [7] (fun iv=>∃ k:Nat,k≤n∧iv=.int .i64 k∧jas (xs.take k)=false) (fun iv=>n - (intOf iv).toNat)
     case atStart=>exact ⟨0,Nat.zero_le _,rfl,by simp [jas]⟩
     case round =>
      obtain ⟨k,hk,rfl,hl⟩:=hrel;have HL:=jac hl;clear hl
      by_cases hlt:k<n
      ·obtain ⟨b,off,rfl,hc⟩:=C5.out (by have:=HN.out;omega);have hk2:k<xs.length:=by have:=HN.out;omega
       have a0:=hc k hk2
       by_cases hb:100<xs[k].size
       ·have E:Hid (jas xs=true):=jkS hk2 hb;clear hc;go_wp2;go_ret;exact ⟨by rw [E.out];rfl,rfl⟩
       ·have S:=jac (jj1 hk2 HL.out hb);clear hc;go_wp2
        go_round
        case rel=>exact ⟨k+1,by omega,by go_num,S.out⟩
        case measure=>simp [intOf];omega
      ·obtain rfl:k=n:=by omega
       rw [HN.out,List.take_length] at HL;go_wp2;go_ret;exact ⟨by rw [HL.out];rfl,rfl⟩
end Go.Proofs.YtbgbpfbjeleooaaGreat.Pd
namespace Go.Proofs.YtbgbpfbjeleooaaGreat.Pd
open Go.RowKit
open Wr (Fld)
structure TSt where
 dims:List Int
 ty:Int
 name:ByteArray
 p:Prt
def t0:TSt:=⟨[],0,⟨#[]⟩,⟨[],[],[],⟨#[]⟩⟩⟩
def jaQ (s:TSt) (x:Fld):R TSt :=
 if x.num=1 then (jbc s.dims x).bind fun l=>.ok ⟨l,s.ty,s.name,s.p⟩
 else if x.num=2 then (jbP x).bind fun y=>.ok ⟨s.dims,y,s.name,s.p⟩
 else if x.num=4 then (jca s.p.fl x).bind fun l=>.ok ⟨s.dims,s.ty,s.name,⟨l,s.p.i32,s.p.i64,s.p.raw⟩⟩
 else if x.num=5 then (jbc s.p.i32 x).bind fun l=>.ok ⟨s.dims,s.ty,s.name,⟨s.p.fl,l,s.p.i64,s.p.raw⟩⟩
 else if x.num=7 then (jbc s.p.i64 x).bind fun l=>.ok ⟨s.dims,s.ty,s.name,⟨s.p.fl,s.p.i32,l,s.p.raw⟩⟩
 else if x.num=8 then (jbZ x).bind fun t=>.ok ⟨s.dims,s.ty,t,s.p⟩
 else if x.num=9 then (jbZ x).bind fun t=>.ok ⟨s.dims,s.ty,s.name,⟨s.p.fl,s.p.i32,s.p.i64,t⟩⟩
 else .ok s
structure NTen where
 name:ByteArray
 ty:Int
 dims:List Int
 data:List Int
def jaB (s:ByteArray):R NTen:=(jaX s).bind fun l=>(jaF jaQ t0 l).bind fun t=>(jfl (pbE t.ty t.dims (jdT t.ty t.p))).bind fun _=>(jal (jas [t.name]) 6).bind fun _=>.ok ⟨t.name,t.ty,t.dims,jdT t.ty t.p⟩
def jgy (l:List Fld):Nat:=tot (l.map (·.b))+l.length
theorem jh0 (x:Fld) (l:List Fld):jgy (x::l)=jgy l+x.b.size+1:=by
 unfold jgy;rw [List.map_cons,jbk,List.length_cons];omega
theorem jdd {zs l:List Int} {x:Fld} (h:jbc zs x=.ok l):l.length≤zs.length+x.b.size+1:=by
 unfold jbc at h
 split at h
 ·cases hn:jbP x with
  | error c=>rw [hn] at h;cases h
  | ok y=>rw [hn] at h;cases h;simp
 ·unfold jdU at h
  cases hp:Wr.all (Wr.tk x.b) x.b.size with
  | none=>rw [hp] at h;cases h
  | some m =>
   rw [hp] at h
   cases h
   have:=jmS hp;rw [List.length_append,List.length_map];omega
theorem jiK {zs l:List Int} {x:Fld} (h:jca zs x=.ok l):l.length≤zs.length+x.b.size+1:=by
 unfold jca at h
 split at h
 ·cases hn:jcX x with
  | error c=>rw [hn] at h;cases h
  | ok y=>rw [hn] at h;cases h;simp
 ·cases hs:jal (decide (x.b.size % 4≠0)) 3 with
  | error c=>rw [hs] at h;cases h
  | ok u =>
   rw [hs] at h
   cases h
   have:=jeZ 1 x.b;rw [List.length_append];omega
theorem jmU {w:World} {B:Nat} {z0 z1 z2 z3:Value} {t:TypeId} (hb:w.heap[B]?=some (.cells #[z0,z1,z2,z3] t (0,0))) (a:Value) :
    (w.setCell ⟨B,0,none⟩ a).heap[B]?=some (.cells #[a,z1,z2,z3] t (0,0))∧(w.setCell ⟨B,1,none⟩ a).heap[B]?=some (.cells #[z0,a,z2,z3] t (0,0))∧(w.setCell ⟨B,2,none⟩ a).heap[B]?=some (.cells #[z0,z1,a,z3] t (0,0))∧(w.setCell ⟨B,3,none⟩ a).heap[B]?=some (.cells #[z0,z1,z2,a] t (0,0)) :=
     ⟨by simpa using heap_setCell_same w B 0 _ _ a hb,by simpa using heap_setCell_same w B 1 _ _ a hb,by simpa using heap_setCell_same w B 2 _ _ a hb,by simpa using heap_setCell_same w B 3 _ _ a hb⟩
theorem jak (w:World) (B j:Nat) (a:Value):w.grownBy (w.setCell ⟨B,j,none⟩ a) (some B) :=
 ⟨rfl,rfl,rfl,by simp [World.setCell],fun k _ hk=>Below.heap_setCell _ _ _ _ (fun e=>hk (by rw [e]))⟩
theorem jaZ {w:World} {B:Nat} {z0 z1 z2 z3:Value} {t:TypeId} (hb:w.heap[B]?=some (.cells #[z0,z1,z2,z3] t (0,0))) :
    (w.cell? ⟨B,0,none⟩=some z0∧w.cell? ⟨B,1,none⟩=some z1∧w.cell? ⟨B,2,none⟩=some z2∧w.cell? ⟨B,3,none⟩=some z3)∧w.frozen? ⟨B,0,none⟩=false∧w.frozen? ⟨B,1,none⟩=false∧w.frozen? ⟨B,2,none⟩=false∧w.frozen? ⟨B,3,none⟩=false :=
     ⟨⟨(cell_of_row _ _ 0 _ _ (0,0) hb).trans rfl,(cell_of_row _ _ 1 _ _ (0,0) hb).trans rfl,(cell_of_row _ _ 2 _ _ (0,0) hb).trans rfl,(cell_of_row _ _ 3 _ _ (0,0) hb).trans rfl⟩,frozen_of_row w B 0 _ _ hb,frozen_of_row w B 1 _ _ hb,frozen_of_row w B 2 _ _ hb,frozen_of_row w B 3 _ _ hb⟩
def Apt (a b:Value):Prop:=∀ g,a.ownBlock=some g→b.ownBlock≠some g
theorem Apt.symm {a b:Value} (h:Apt a b):Apt b a:=fun g e e2=>h g e2 e
theorem Apt.step {w:World} {base:Nat} {a b b':Value} {zs:List Int} (h:Apt a b) (ha:O64 w base a zs) (hf:jdN w.heap.size b b'):Apt a b':=fun g e e2=>by
 rcases hf g e2 with h1 | h1
 ·exact h g e h1
 ·have:=(World.ownsRow.lt ha.1 g e)
  omega
theorem Apt.nil (b:Value):Apt (.slice none 0 0) b:=fun g e=>by cases e
theorem O64.away {w w':World} {base:Nat} {a b:Value} {zs:List Int} (h:O64 w base a zs) (hg:w.grownBy w' b.ownBlock) (hab:Apt a b):O64 w' base a zs:=h.more hg (by
 cases e:a.ownBlock with
 | none=>exact .inl rfl
 | some g=>exact .inr (fun e2=>hab g e e2.symm))
structure Four (w:World) (base:Nat) (d f g h:Value) (ld lf lg lh:List Int):Prop where
 od:O64 w base d ld
 of:O64 w base f lf
 og:O64 w base g lg
 oh:O64 w base h lh
 df:Apt d f
 dg:Apt d g
 dh:Apt d h
 fg:Apt f g
 fh:Apt f h
 gh:Apt g h
theorem Four.new {w w':World} {base:Nat} {d f g h:Value} {ld lf lg lh:List Int} (H:Four w base d f g h ld lf lg lh) (hg:w.grownBy w' none):Four w' base d f g h ld lf lg lh :=
 ⟨H.od.new hg,H.of.new hg,H.og.new hg,H.oh.new hg,H.df,H.dg,H.dh,H.fg,H.fh,H.gh⟩
theorem Four.box {w w':World} {base B:Nat} {d f g h:Value} {ld lf lg lh:List Int} (H:Four w base d f g h ld lf lg lh) (hg:w.grownBy w' (some B)) (hB:B<base):Four w' base d f g h ld lf lg lh :=
 have k:∀ {v:Value} {l:List Int},O64 w base v l→O64 w' base v l:=fun {v l} ho=>ho.more hg (by
  cases e:v.ownBlock with
  | none=>exact .inl rfl
  | some q=>exact .inr (fun e2=>by cases e2;have:=ho.ge e;omega))
 ⟨k H.od,k H.of,k H.og,k H.oh,H.df,H.dg,H.dh,H.fg,H.fh,H.gh⟩
theorem Four.setd {w w':World} {base:Nat} {d d' f g h:Value} {ld ld' lf lg lh:List Int} (H:Four w base d f g h ld lf lg lh) (hg:w.grownBy w' d.ownBlock) (ho:O64 w' base d' ld') (hf:jdN w.heap.size d d'):Four w' base d' f g h ld' lf lg lh :=
 ⟨ho,H.of.away hg H.df.symm,H.og.away hg H.dg.symm,H.oh.away hg H.dh.symm,(H.df.symm.step H.of hf).symm,(H.dg.symm.step H.og hf).symm,(H.dh.symm.step H.oh hf).symm,H.fg,H.fh,H.gh⟩
theorem Four.setf {w w':World} {base:Nat} {d f f' g h:Value} {ld lf lf' lg lh:List Int} (H:Four w base d f g h ld lf lg lh) (hg:w.grownBy w' f.ownBlock) (ho:O64 w' base f' lf') (hf:jdN w.heap.size f f'):Four w' base d f' g h ld lf' lg lh :=
 ⟨H.od.away hg H.df,ho,H.og.away hg H.fg.symm,H.oh.away hg H.fh.symm,H.df.step H.od hf,H.dg,H.dh,(H.fg.symm.step H.og hf).symm,(H.fh.symm.step H.oh hf).symm,H.gh⟩
theorem Four.setg {w w':World} {base:Nat} {d f g g' h:Value} {ld lf lg lg' lh:List Int} (H:Four w base d f g h ld lf lg lh) (hg:w.grownBy w' g.ownBlock) (ho:O64 w' base g' lg') (hf:jdN w.heap.size g g'):Four w' base d f g' h ld lf lg' lh :=
 ⟨H.od.away hg H.dg,H.of.away hg H.fg,ho,H.oh.away hg H.gh.symm,H.df,H.dg.step H.od hf,H.dh,H.fg.step H.of hf,H.fh,(H.gh.symm.step H.oh hf).symm⟩
theorem Four.seth {w w':World} {base:Nat} {d f g h h':Value} {ld lf lg lh lh':List Int} (H:Four w base d f g h ld lf lg lh) (hg:w.grownBy w' h.ownBlock) (ho:O64 w' base h' lh') (hf:jdN w.heap.size h h'):Four w' base d f g h' ld lf lg lh' :=
 ⟨H.od.away hg H.dh,H.of.away hg H.fh,H.og.away hg H.gh,ho,H.df,H.dg,H.dh.step H.od hf,H.fg,H.fh.step H.of hf,H.gh.step H.og hf⟩
theorem Four.nil (w:World) (base:Nat):Four w base (.slice none 0 0) (.slice none 0 0) (.slice none 0 0) (.slice none 0 0) [] [] [] [] :=
 ⟨O64.nil _ _,O64.nil _ _,O64.nil _ _,O64.nil _ _,Apt.nil _,Apt.nil _,Apt.nil _,Apt.nil _,Apt.nil _,Apt.nil _⟩
end Go.Proofs.YtbgbpfbjeleooaaGreat.Pd
