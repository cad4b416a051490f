/- A part. -/
import Derived.Test.YteigfipgmghgmaaGreatDoorVartBI
import Derived.Test.YteigfipgmghgmaaGreatDoorVartBA
import Derived.Test.YteigfipgmghgmaaGreatDoorVartAQ
import Derived.Test.YteigfipgmghgmaaGreatDoorVartAV
import Derived.Test.YteigfipgmghgmaaGreatDoorVartAS
import Derived.Test.YteigfipgmghgmaaGreatDoorVartAM
set_option maxHeartbeats 16000000
set_option maxRecDepth 100000
namespace Go.Proofs.YteigfipgmghgmaaGreatDoor
open Go.RowKit
def G2 (k:Nat) (t:Int) (xs:List Int):Int×Int:=if (-9223372036854775808≤xs.getD 0 0∧xs.getD 0 0≤9223372036854775807)∧(-9223372036854775808≤xs.getD 1 0∧xs.getD 1 0≤9223372036854775807) then Nu.bin k t (xs.getD 0 0) (xs.getD 1 0) else (0,0)
theorem jex (n:Int) : -9223372036854775808≤wrap64 n∧wrap64 n≤9223372036854775807:=by
 unfold wrap64;omega
theorem jdj (b:Bool) : -9223372036854775808≤Nu.b2i b∧Nu.b2i b≤9223372036854775807:=by cases b <;> decide
theorem jbx (r:Nat) (h:r<4294967296) : -9223372036854775808≤Nu.tob r∧Nu.tob r≤9223372036854775807:=by
 unfold Nu.tob
 split
 ·omega
 ·omega
theorem jdO (op:BinOp) (x y:Nat) : -9223372036854775808≤Nu.tobO (floatBits op .f32 x y)∧Nu.tobO (floatBits op .f32 x y)≤9223372036854775807:=by
 cases h:floatBits op .f32 x y with
 | none=>simp [Nu.tobO]
 | some r =>
  have h1:=floatBits_wf h;exact jbx r (by simpa [Lit.wf] using h1)
theorem jej (x:Int):Nu.fb x<4294967296:=by
 unfold Nu.fb;omega
theorem jrA (x y:Nat) (hx:x<4294967296) (hy:y<4294967296) : -9223372036854775808≤Nu.maxF x y∧Nu.maxF x y≤9223372036854775807:=by
 unfold Nu.maxF
 split
 ·decide
 ·exact jbx _ hy
 ·exact jbx _ hx
 ·split
  ·exact jbx _ hy
  ·exact jbx _ hx
theorem jrB (x y:Nat) (hx:x<4294967296) (hy:y<4294967296) : -9223372036854775808≤Nu.minF x y∧Nu.minF x y≤9223372036854775807:=by
 unfold Nu.minF
 split
 ·decide
 ·exact jbx _ hx
 ·exact jbx _ hy
 ·split
  ·exact jbx _ hx
  ·exact jbx _ hy
theorem jb6 (t n:Int) (h : -9223372036854775808≤n∧n≤9223372036854775807) : -9223372036854775808≤Nu.wrapT t n∧Nu.wrapT t n≤9223372036854775807:=by
 unfold Nu.wrapT
 split
 ·exact jex _
 ·exact h
theorem jju (k x y:Nat) (hx:x<4294967296) (hy:y<4294967296) : -9223372036854775808≤(Nu.binFl k x y).1∧(Nu.binFl k x y).1≤9223372036854775807:=by
 unfold Nu.binFl
 split
 ·exact jdO _ _ _
 ·exact jdO _ _ _
 ·exact jdO _ _ _
 ·exact jdO _ _ _
 ·exact jrA _ _ hx hy
 ·exact jrB _ _ hx hy
 ·exact jdj _
 ·exact jdj _
 ·exact jdj _
 ·decide
theorem jps (k:Nat) (t x y:Int) (hx : -9223372036854775808≤x∧x≤9223372036854775807) (hy : -9223372036854775808≤y∧y≤9223372036854775807) : -9223372036854775808≤(Nu.binIn k t x y).1∧(Nu.binIn k t x y).1≤9223372036854775807:=by
 unfold Nu.binIn
 split
 ·exact jb6 _ _ (jex _)
 ·exact jb6 _ _ (jex _)
 ·exact jb6 _ _ (jex _)
 ·split
  ·decide
  ·exact jb6 _ _ (jex _)
 ·refine jb6 _ _ ?_;unfold Nu.maxI
  split
  ·exact hy
  ·exact hx
 ·refine jb6 _ _ ?_;unfold Nu.minI
  split
  ·exact hy
  ·exact hx
 ·exact jdj _
 ·exact jdj _
 ·exact jdj _
 ·decide
theorem jpt (k:Nat) (x y:Int) (hx:x=0∨x=1) (hy:y=0∨y=1) : -9223372036854775808≤(Nu.binBo k x y).1∧(Nu.binBo k x y).1≤9223372036854775807:=by
 unfold Nu.binBo
 split
 ·rcases hx with rfl | rfl <;> rcases hy with rfl | rfl <;> decide
 ·rcases hx with rfl | rfl <;> rcases hy with rfl | rfl <;> decide
 ·rcases hx with rfl | rfl <;> rcases hy with rfl | rfl <;> decide
 ·exact jdj _
 ·decide
theorem jtQ {x:Int} (h:Nu.chk 9 x=true):x=0∨x=1:=by simpa [Nu.chk] using h
theorem ju0 (k:Nat) (t:Int) (xs:List Int) : -9223372036854775808≤(G2 k t xs).1∧(G2 k t xs).1≤9223372036854775807:=by
 unfold G2
 split
 ·rename_i hr;unfold Nu.bin
  split
  ·rename_i h;rw [Bool.and_eq_true] at h
   split
   ·exact jju _ _ _ (jej _) (jej _)
   ·split
    ·rename_i h9;subst h9;exact jpt _ _ _ (jtQ h.1) (jtQ h.2)
    ·exact jps _ _ _ _ hr.1 hr.2
  ·decide
 ·decide
def kOf (op:ByteArray):Option Nat:=jdG.idxOf? op.toList
def tv (t:Int) (x:List Int):Val×List Int:=(⟨⟨#[]⟩,t,joK⟩,x)
theorem jlt:∀ {vs us:List (Val×List Int)},vs.map (·.1.ty)=us.map (·.1.ty)→vs.map (·.2)=us.map (·.2)→jeL vs=jeL us
 | [],[],_,_=>rfl
 | p::l,q::m,h1,h2=>by
  simp only [List.map_cons,List.cons.injEq] at h1 h2;simp only [jeL];rw [h1.1,h2.1,jlt h1.2 h2.2]
 | [],q::m,h1,_=>by simp at h1
 | p::l,[],h1,_=>by simp at h1
theorem jgi {n:Nod} {ins:List ByteArray} {A:At} {vs us:List (Val×List Int)} (h1:vs.map (·.1.ty)=us.map (·.1.ty)) (h2:vs.map (·.2)=us.map (·.2)):jid n ins A vs=jid n ins A us:=by
 have hl:vs.length=us.length:=by simpa using congrArg List.length h1
 have ht:jaD vs=jaD us:=h1;have hd:jdM vs=jdM us:=h2;unfold jid jbE;rw [hl,ht,hd,jlt h1 h2]
theorem jmK {a b:ByteArray} (h:a.toList=b.toList):a=b:=by
 rw [jaj,jaj] at h;exact ByteArray.ext (Array.ext' h)
theorem jbP {a:ByteArray} {l:List UInt8} (h:a.toList=l):a=⟨l.toArray⟩:=by
 rw [jaj] at h;subst h
 rfl
theorem jpu {op:ByteArray} (h:op.toList∈jdG):op∈([⟨#[65,100,100]⟩,⟨#[83,117,98]⟩,⟨#[77,117,108]⟩,⟨#[68,105,118]⟩,⟨#[77,97,120]⟩,⟨#[77,105,110]⟩,⟨#[65,110,100]⟩,⟨#[79,114]⟩,⟨#[88,111,114]⟩,⟨#[69,113,117,97,108]⟩,⟨#[76,101,115,115]⟩,⟨#[71,114,101,97,116,101,114]⟩]:List ByteArray):=by
 simp only [jdG,List.mem_cons,List.not_mem_nil,or_false] at h ⊢
 rcases h with h | h | h | h | h | h | h | h | h | h | h | h
 ·exact .inl (jbP h)
 ·exact .inr (.inl (jbP h))
 ·exact .inr (.inr (.inl (jbP h)))
 ·exact .inr (.inr (.inr (.inl (jbP h))))
 ·exact .inr (.inr (.inr (.inr (.inl (jbP h)))))
 ·exact .inr (.inr (.inr (.inr (.inr (.inl (jbP h))))))
 ·exact .inr (.inr (.inr (.inr (.inr (.inr (.inl (jbP h)))))))
 ·exact .inr (.inr (.inr (.inr (.inr (.inr (.inr (.inl (jbP h))))))))
 ·exact .inr (.inr (.inr (.inr (.inr (.inr (.inr (.inr (.inl (jbP h)))))))))
 ·exact .inr (.inr (.inr (.inr (.inr (.inr (.inr (.inr (.inr (.inl (jbP h))))))))))
 ·exact .inr (.inr (.inr (.inr (.inr (.inr (.inr (.inr (.inr (.inr (.inl (jbP h)))))))))))
 ·exact .inr (.inr (.inr (.inr (.inr (.inr (.inr (.inr (.inr (.inr (.inr (jbP h)))))))))))
theorem jpv {α:Type} [BEq α] [LawfulBEq α] {l:List α} {a:α} {k:Nat} (h:l.idxOf? a=some k):a∈l:=by
 rw [List.idxOf?_eq_some_iff] at h;obtain ⟨h1,h2,-⟩:=h;exact h2 ▸ List.getElem_mem h1
theorem jlu {op:ByteArray} {k:Nat} (h:kOf op=some k):op∈([⟨#[65,100,100]⟩,⟨#[83,117,98]⟩,⟨#[77,117,108]⟩,⟨#[68,105,118]⟩,⟨#[77,97,120]⟩,⟨#[77,105,110]⟩,⟨#[65,110,100]⟩,⟨#[79,114]⟩,⟨#[88,111,114]⟩,⟨#[69,113,117,97,108]⟩,⟨#[76,101,115,115]⟩,⟨#[71,114,101,97,116,101,114]⟩]:List ByteArray):=jpu (jpv h)
theorem jpw {F:List Int→Int×Int} {ps:List (Ten×Tq)} {l zs:List Int} {N:Nat} (h:jcz F ps l N=.ok zs):ps.all (jgl l)=true∧evL F (ps.map (jjr l)) 0 N=.ok zs:=by
 unfold jcz at h
 split at h
 ·rename_i h1;exact ⟨h1,h⟩
 ·cases h
end Go.Proofs.YteigfipgmghgmaaGreatDoor
namespace Go.Proofs.YteigfipgmghgmaaGreatDoor
open Go.RowKit
def W64 (x:Int):Prop := -9223372036854775808≤x∧x≤9223372036854775807
theorem jjv (k:Nat) (t x:Int) (hx:W64 x):W64 (Nu.un k t x).1:=by
 unfold Nu.un
 split
 ·rename_i hc
  split
  ·exact hx
  ·split
   ·unfold Nu.unFl
    split
    ·exact jbx _ (Nu.negF_lt _ (jej x))
    ·exact jbx _ (Nu.absF_lt _)
    ·exact jbx _ (Nu.reluF_lt _ (jej x))
    ·exact ⟨by decide,by decide⟩
   ·split
    ·rename_i h9;subst h9;unfold Nu.unBo
     split
     ·rcases jtQ hc with rfl | rfl <;> exact ⟨by decide,by decide⟩
     ·exact ⟨by decide,by decide⟩
    ·unfold Nu.unIn
     split
     ·exact jb6 _ _ (jex _)
     ·show W64 (Nu.absI t x);unfold Nu.absI
      split
      ·exact jb6 _ _ (jex _)
      ·exact hx
     ·exact ⟨by decide,by decide⟩
 ·exact ⟨by decide,by decide⟩
theorem jtR (t:Int) (b:Nat):W64 (Nu.f2i t b):=by
 have hv:W64 ((floatToIntVal .f64 (Nu.cv b) .i64).getD 0):=by
  cases h:floatToIntVal .f64 (Nu.cv b) .i64 with
  | none=>exact ⟨by decide,by decide⟩
  | some n=>exact Nu.val_bd _ n h
 unfold Nu.f2i
 split
 ·exact ⟨by decide,by decide⟩
 ·split
  ·split
   ·exact ⟨by decide,by decide⟩
   ·split
    ·exact ⟨by decide,by decide⟩
    ·exact hv
  ·split
   ·exact ⟨by decide,by decide⟩
   ·split
    ·exact ⟨by decide,by decide⟩
    ·exact hv
theorem jtS (f t x:Int) (hx:W64 x):W64 (Nu.cst f t x).1:=by
 unfold Nu.cst
 split
 ·split
  ·exact hx
  ·split
   ·exact jdj _
   ·split
    ·exact jtR _ _
    ·split
     ·exact jdj _
     ·split
      ·exact jbx _ (Nu.foi_lt x)
      ·exact jb6 _ _ hx
 ·exact ⟨by decide,by decide⟩
theorem jtT (k:Nat) (t x y:Int) (hx:W64 x) (hy:W64 y):W64 (Nu.bin k t x y).1:=by
 have h:=ju0 k t [x,y];unfold G2 at h;rw [if_pos (by exact ⟨hx,hy⟩)] at h;exact h
theorem ju1 {op:ByteArray} {k:Nat} (h:kOf op=some k) (t x y:Int) (w:World):Calls Tryz.prog 31 #[.string op,.int .i64 t,.int .i64 x,.int .i64 y] w fun e w'=>e=.returned (.tuple #[.int .i64 (Nu.bin k t x y).1,.int .i64 (Nu.bin k t x y).2])∧∃ q,w'=w.drewN q:=by
 have h12:=jlu h;simp only [List.mem_cons,List.not_mem_nil,or_false] at h12
 rcases h12 with rfl | rfl | rfl | rfl | rfl | rfl | rfl | rfl | rfl | rfl | rfl | rfl
 ·obtain rfl:k=0:=Option.some.inj (h.symm.trans (show kOf ⟨#[65,100,100]⟩=some 0 by kernel_rfl));exact Nu.binary0 t x y w
 ·obtain rfl:k=1:=Option.some.inj (h.symm.trans (show kOf ⟨#[83,117,98]⟩=some 1 by kernel_rfl));exact Nu.binary1 t x y w
 ·obtain rfl:k=2:=Option.some.inj (h.symm.trans (show kOf ⟨#[77,117,108]⟩=some 2 by kernel_rfl));exact Nu.binary2 t x y w
 ·obtain rfl:k=3:=Option.some.inj (h.symm.trans (show kOf ⟨#[68,105,118]⟩=some 3 by kernel_rfl));exact Nu.binary3 t x y w
 ·obtain rfl:k=4:=Option.some.inj (h.symm.trans (show kOf ⟨#[77,97,120]⟩=some 4 by kernel_rfl));exact Nu.binary4 t x y w
 ·obtain rfl:k=5:=Option.some.inj (h.symm.trans (show kOf ⟨#[77,105,110]⟩=some 5 by kernel_rfl));exact Nu.binary5 t x y w
 ·obtain rfl:k=6:=Option.some.inj (h.symm.trans (show kOf ⟨#[65,110,100]⟩=some 6 by kernel_rfl));exact Nu.binary6 t x y w
 ·obtain rfl:k=7:=Option.some.inj (h.symm.trans (show kOf ⟨#[79,114]⟩=some 7 by kernel_rfl));exact Nu.binary7 t x y w
 ·obtain rfl:k=8:=Option.some.inj (h.symm.trans (show kOf ⟨#[88,111,114]⟩=some 8 by kernel_rfl));exact Nu.binary8 t x y w
 ·obtain rfl:k=9:=Option.some.inj (h.symm.trans (show kOf ⟨#[69,113,117,97,108]⟩=some 9 by kernel_rfl));exact Nu.binary9 t x y w
 ·obtain rfl:k=10:=Option.some.inj (h.symm.trans (show kOf ⟨#[76,101,115,115]⟩=some 10 by kernel_rfl));exact Nu.binary10 t x y w
 ·obtain rfl:k=11:=Option.some.inj (h.symm.trans (show kOf ⟨#[71,114,101,97,116,101,114]⟩=some 11 by kernel_rfl));exact Nu.binary11 t x y w
end Go.Proofs.YteigfipgmghgmaaGreatDoor
namespace Go.Proofs.YteigfipgmghgmaaGreatDoor
open Go.RowKit
theorem wof_1 (n:Nod) (hop:n.op∈([⟨#[73,100,101,110,116,105,116,121]⟩,⟨#[78,101,103]⟩,⟨#[65,98,115]⟩,⟨#[78,111,116]⟩,⟨#[82,101,108,117]⟩,⟨#[83,113,114,116]⟩,⟨#[70,108,111,111,114]⟩,⟨#[69,120,112]⟩,⟨#[83,105,103,109,111,105,100]⟩,⟨#[84,97,110,104]⟩]:List ByteArray)) (u:Sl) (a0 a1 a2:Value) (w:World) :
    Calls Tryz.prog 21 #[jaz n,.slice u.a u.n u.c,.agg #[a0,a1,a2]] w fun e w'=>e=.returned (.func (.func 28) #[] #[.pointer (some ⟨w.heap.size,0,none⟩),.pointer (some ⟨w.heap.size+1,0,none⟩)])∧w.grownBy w' none∧w'.heap[w.heap.size]?=some (.cells #[.string n.op,.string n.name,.slice n.iv.a n.iv.n n.iv.c,.string n.out,.slice n.av.a n.av.n n.av.c] 25 (0,0))∧w'.heap[w.heap.size+1]?=some (.cells #[.slice u.a u.n u.c] 26 (0,0)):=by
     have hmf:∀ (fn:Fn) (first cap:Array Value) (w:World),(Instr.makeFunc fn first cap).run Tryz.prog w=.ok (.func fn first cap) w:=fun _ _ _ _=>rfl;obtain ⟨op,nam,⟨ia,il,ic⟩,out,⟨ao,al,cap⟩⟩:=n;obtain ⟨ua,un,uc⟩:=u;unfold jaz;simp only at hop ⊢;have B3:=jac (jbT w (.cells #[.string op,.string nam,.slice ia il ic,.string out,.slice ao al cap] 25) (.cells #[.slice ua un uc] 26) (.cells #[a0,a1,a2] 53));have G3:=jac (jaa (jaa (jab w (.cells #[.string op,.string nam,.slice ia il ic,.string out,.slice ao al cap] 25)) (jab _ (.cells #[.slice ua un uc] 26))) (jab _ (.cells #[a0,a1,a2] 53)));simp only [List.mem_cons,List.not_mem_nil,or_false] at hop
     rcases hop with rfl | rfl | rfl | rfl | rfl | rfl | rfl | rfl | rfl | rfl
     all_goals
      go_enter Tryz.func21,Tryz.ntmps21;go_wp2;go_ret;exact ⟨rfl,G3.out,B3.out.1,B3.out.2.1⟩
theorem jpx (n:Nod) (hop:n.op=⟨#[87,104,101,114,101]⟩) (u:Sl) (a0 a1 a2:Value) (w:World) :
    Calls Tryz.prog 21 #[jaz n,.slice u.a u.n u.c,.agg #[a0,a1,a2]] w fun e w'=>e=.returned (.func (.func 32) #[] #[])∧w.grownBy w' none:=by
     have hmf:∀ (fn:Fn) (first cap:Array Value) (w:World),(Instr.makeFunc fn first cap).run Tryz.prog w=.ok (.func fn first cap) w:=fun _ _ _ _=>rfl;obtain ⟨op,nam,⟨ia,il,ic⟩,out,⟨ao,al,cap⟩⟩:=n;obtain ⟨ua,un,uc⟩:=u;unfold jaz;simp only at hop ⊢;have B3:=jac (jbT w (.cells #[.string op,.string nam,.slice ia il ic,.string out,.slice ao al cap] 25) (.cells #[.slice ua un uc] 26) (.cells #[a0,a1,a2] 53));have G3:=jac (jaa (jaa (jab w (.cells #[.string op,.string nam,.slice ia il ic,.string out,.slice ao al cap] 25)) (jab _ (.cells #[.slice ua un uc] 26))) (jab _ (.cells #[a0,a1,a2] 53)));subst hop;go_enter Tryz.func21,Tryz.ntmps21;go_wp2;go_ret;exact ⟨rfl,G3.out⟩
theorem jrC (n:Nod) (hop:n.op=⟨#[67,97,115,116]⟩) (u:Sl) (a0 a1 a2:Value) (w:World) :
    Calls Tryz.prog 21 #[jaz n,.slice u.a u.n u.c,.agg #[a0,a1,a2]] w fun e w'=>e=.returned (.func (.func 35) #[] #[.pointer (some ⟨w.heap.size+1,0,none⟩),.pointer (some ⟨w.heap.size+2,0,none⟩)])∧w.grownBy w' none∧w'.heap[w.heap.size+1]?=some (.cells #[.slice u.a u.n u.c] 26 (0,0))∧w'.heap[w.heap.size+2]?=some (.cells #[a0,a1,a2] 53 (0,0)):=by
     have hmf:∀ (fn:Fn) (first cap:Array Value) (w:World),(Instr.makeFunc fn first cap).run Tryz.prog w=.ok (.func fn first cap) w:=fun _ _ _ _=>rfl;obtain ⟨op,nam,⟨ia,il,ic⟩,out,⟨ao,al,cap⟩⟩:=n;obtain ⟨ua,un,uc⟩:=u;unfold jaz;simp only at hop ⊢;have B3:=jac (jbT w (.cells #[.string op,.string nam,.slice ia il ic,.string out,.slice ao al cap] 25) (.cells #[.slice ua un uc] 26) (.cells #[a0,a1,a2] 53));have G3:=jac (jaa (jaa (jab w (.cells #[.string op,.string nam,.slice ia il ic,.string out,.slice ao al cap] 25)) (jab _ (.cells #[.slice ua un uc] 26))) (jab _ (.cells #[a0,a1,a2] 53)));subst hop;go_enter Tryz.func21,Tryz.ntmps21;go_wp2;go_ret;exact ⟨rfl,G3.out,B3.out.2.1,B3.out.2.2⟩
theorem jrD (n:Nod) (hop:n.op.toList∉([[73,100,101,110,116,105,116,121],[78,101,103],[65,98,115],[78,111,116],[82,101,108,117],[83,113,114,116],[70,108,111,111,114],[69,120,112],[83,105,103,109,111,105,100],[84,97,110,104],[65,100,100],[83,117,98],[77,117,108],[68,105,118],[77,97,120],[77,105,110],[65,110,100],[79,114],[88,111,114],[69,113,117,97,108],[76,101,115,115],[71,114,101,97,116,101,114],[87,104,101,114,101],[67,108,105,112],[67,97,115,116]]:List (List UInt8))) (u:Sl) (a0 a1 a2:Value) (w:World) :
    Calls Tryz.prog 21 #[jaz n,.slice u.a u.n u.c,.agg #[a0,a1,a2]] w fun e w'=>e=.returned .nilFunc∧w.grownBy w' none:=by
     have hmf:∀ (fn:Fn) (first cap:Array Value) (w:World),(Instr.makeFunc fn first cap).run Tryz.prog w=.ok (.func fn first cap) w:=fun _ _ _ _=>rfl;obtain ⟨op,nam,⟨ia,il,ic⟩,out,⟨ao,al,cap⟩⟩:=n;obtain ⟨ua,un,uc⟩:=u;unfold jaz;simp only at hop ⊢;have B3:=jac (jbT w (.cells #[.string op,.string nam,.slice ia il ic,.string out,.slice ao al cap] 25) (.cells #[.slice ua un uc] 26) (.cells #[a0,a1,a2] 53));have G3:=jac (jaa (jaa (jab w (.cells #[.string op,.string nam,.slice ia il ic,.string out,.slice ao al cap] 25)) (jab _ (.cells #[.slice ua un uc] 26))) (jab _ (.cells #[a0,a1,a2] 53)));simp only [List.mem_cons,List.not_mem_nil,or_false,not_or] at hop;obtain ⟨m0,m1,m2,m3,m4,m5,m6,m7,m8,m9,m10,m11,m12,m13,m14,m15,m16,m17,m18,m19,m20,m21,m22,m23,m24⟩:=hop;have d0:(op.toList==[73,100,101,110,116,105,116,121])=false:=by simpa using m0
     have d1:(op.toList==[78,101,103])=false:=by simpa using m1
     have d2:(op.toList==[65,98,115])=false:=by simpa using m2
     have d3:(op.toList==[78,111,116])=false:=by simpa using m3
     have d4:(op.toList==[82,101,108,117])=false:=by simpa using m4
     have d5:(op.toList==[83,113,114,116])=false:=by simpa using m5
     have d6:(op.toList==[70,108,111,111,114])=false:=by simpa using m6
     have d7:(op.toList==[69,120,112])=false:=by simpa using m7
     have d8:(op.toList==[83,105,103,109,111,105,100])=false:=by simpa using m8
     have d9:(op.toList==[84,97,110,104])=false:=by simpa using m9
     have d10:(op.toList==[65,100,100])=false:=by simpa using m10
     have d11:(op.toList==[83,117,98])=false:=by simpa using m11
     have d12:(op.toList==[77,117,108])=false:=by simpa using m12
     have d13:(op.toList==[68,105,118])=false:=by simpa using m13
     have d14:(op.toList==[77,97,120])=false:=by simpa using m14
     have d15:(op.toList==[77,105,110])=false:=by simpa using m15
     have d16:(op.toList==[65,110,100])=false:=by simpa using m16
     have d17:(op.toList==[79,114])=false:=by simpa using m17
     have d18:(op.toList==[88,111,114])=false:=by simpa using m18
     have d19:(op.toList==[69,113,117,97,108])=false:=by simpa using m19
     have d20:(op.toList==[76,101,115,115])=false:=by simpa using m20
     have d21:(op.toList==[71,114,101,97,116,101,114])=false:=by simpa using m21
     have d22:(op.toList==[87,104,101,114,101])=false:=by simpa using m22
     have d23:(op.toList==[67,108,105,112])=false:=by simpa using m23
     have d24:(op.toList==[67,97,115,116])=false:=by simpa using m24
     clear m0 m1 m2 m3 m4 m5 m6 m7 m8 m9 m10 m11 m12 m13 m14 m15 m16 m17 m18 m19 m20 m21 m22 m23 m24;go_enter Tryz.func21,Tryz.ntmps21;go_wp2;go_ret;exact ⟨rfl,G3.out⟩
theorem jrE (k:Nat) (x y:Int):W64 (Nu.bin k 1 x y).1:=by
 unfold Nu.bin
 split
 ·rw [if_pos rfl];exact jju k _ _ (jej x) (jej y)
 ·exact ⟨by decide,by decide⟩
theorem jpy (x y:Int) (w:World):Calls Tryz.prog 33 #[.int .i64 x,.int .i64 y] w fun e w'=>e=.returned (.func (.func 56) #[] #[.pointer (some ⟨w.heap.size,0,none⟩),.pointer (some ⟨w.heap.size+1,0,none⟩)])∧w.grownBy w' none∧w'.heap[w.heap.size]?=some (.cells #[.int .i64 x] 2 (0,0))∧w'.heap[w.heap.size+1]?=some (.cells #[.int .i64 y] 2 (0,0)):=by
 have hmf:∀ (fn:Fn) (first cap:Array Value) (w:World),(Instr.makeFunc fn first cap).run Tryz.prog w=.ok (.func fn first cap) w:=fun _ _ _ _=>rfl;have B2:=jac (jbi w (.cells #[.int .i64 x] 2) (.cells #[.int .i64 y] 2));have G2:=jac (jaa (jab w (.cells #[.int .i64 x] 2)) (jab _ (.cells #[.int .i64 y] 2)));go_enter Tryz.func33,Tryz.ntmps33;go_wp2;go_ret;exact ⟨rfl,G2.out,B2.out.1,B2.out.2⟩
theorem jrF (n:Nod) (hop:n.op=⟨#[67,108,105,112]⟩) (xs:List Atr) (cs:List Cont) (u:Sl) (a0 a1 a2:Value) (w:World) (hv:jbR w n.av.v xs) (hc:∀ (j:Nat) (a:Atr),xs[j]?=some a→∃ c,cs[j]?=some c∧Has w a c) :
    Calls Tryz.prog 21 #[jaz n,.slice u.a u.n u.c,.agg #[a0,a1,a2]] w fun e w'=>∃ p1 p2:Nat,e=.returned (.func (.func 56) #[] #[.pointer (some ⟨p1,0,none⟩),.pointer (some ⟨p2,0,none⟩)])∧w.grownBy w' none∧w'.heap[p1]?=some (.cells #[.int .i64 (jep xs ⟨#[109,105,110]⟩ 4286578688)] 2 (0,0))∧w'.heap[p2]?=some (.cells #[.int .i64 (jep xs ⟨#[109,97,120]⟩ 2139095040)] 2 (0,0)):=by
     have SB:=jac (fun (nm:ByteArray) (z:Int) (wx:World) (hg:w.grownBy wx none)=>jnp n xs cs nm z wx (hv.more hg) (fun j a ha=>(hc j a ha).imp fun c h=>⟨h.1,h.2.more hg⟩));clear hv hc;obtain ⟨op,nam,⟨ia,il,ic⟩,out,⟨ao,al,cap⟩⟩:=n;obtain ⟨ua,un,uc⟩:=u;unfold jaz at SB ⊢;simp only at hop SB ⊢;obtain ⟨w0,hw0⟩ : ∃ w0,w0=((w.alloc (.cells #[.string op,.string nam,.slice ia il ic,.string out,.slice ao al cap] 25)).alloc (.cells #[.slice ua un uc] 26)).alloc (.cells #[a0,a1,a2] 53):=⟨_,rfl⟩
     have g0:Hid (w.grownBy w0 none):=by show w.grownBy w0 none;rw [hw0];exact jaa (jaa (jab _ _) (jab _ _)) (jab _ _)
     have hb0:=(jbT w (.cells #[.string op,.string nam,.slice ia il ic,.string out,.slice ao al cap] 25) (.cells #[.slice ua un uc] 26) (.cells #[a0,a1,a2] 53)).1;rw [← hw0] at hb0;have BX:Hid (∀ wx,w0.grownBy wx none→wx.heap[w.heap.size]?=some (.cells #[.string op,.string nam,.slice ia il ic,.string out,.slice ao al cap] 25 (0,0))):=fun wx hg=>jag hb0 hg;clear hb0;obtain ⟨n0,n1,n2,n3,n4⟩:=jak (n:=⟨op,nam,⟨ia,il,ic⟩,out,⟨ao,al,cap⟩⟩) (BX.out w0 (jad _));have GD:=jac (jaf (jad w0));simp only at n0 n1 n2 n3 n4;obtain ⟨lo,hlo⟩ : ∃ q,q=jep xs ⟨#[109,105,110]⟩ 4286578688:=⟨_,rfl⟩
     obtain ⟨hi,hhi⟩ : ∃ q,q=jep xs ⟨#[109,97,120]⟩ 2139095040:=⟨_,rfl⟩
     have S1:=jac (fun (wx:World) (hg:w.grownBy wx none)=>SB.out ⟨#[109,105,110]⟩ 4286578688 wx hg);have S2:=jac (fun (wx:World) (hg:w.grownBy wx none)=>SB.out ⟨#[109,97,120]⟩ 2139095040 wx hg);rw [← hlo] at S1 ⊢;rw [← hhi] at S2 ⊢;clear hlo hhi SB;subst hop;go_enter Tryz.func21,Tryz.ntmps21;go_wp2_with fail;rw [← hw0];clear hw0;go_wp2_with fail;go_region_held3 (fun w'=>w'.cell? ⟨w.heap.size,0,none⟩=some (.string ⟨#[67,108,105,112]⟩)∧w'.cell? ⟨w.heap.size,1,none⟩=some (.string nam)∧w'.cell? ⟨w.heap.size,2,none⟩=some (.slice ia il ic)∧w'.cell? ⟨w.heap.size,3,none⟩=some (.string out)∧w'.cell? ⟨w.heap.size,4,none⟩=some (.slice ao al cap)) (go_keep) (first | (have q1:=G1.out;clear q1;go_at_call 34;refine (S2.out _ (jaa g0.out G1.out)).mono ?_;rintro e w2 ⟨rfl,hg2⟩;have G2:=jac (jaa G1.out hg2);obtain ⟨n0,n1,n2,n3,n4⟩:=jak (n:=⟨⟨#[67,108,105,112]⟩,nam,⟨ia,il,ic⟩,out,⟨ao,al,cap⟩⟩) (BX.out w2 G2.out);clear hg2;simp only at n0 n1 n2 n3 n4) | (go_at_call 34;refine (S1.out _ (jaa g0.out GD.out)).mono ?_;rintro e w1 ⟨rfl,hg1⟩;have G1:=jac (jaa GD.out hg1);obtain ⟨n0,n1,n2,n3,n4⟩:=jak (n:=⟨⟨#[67,108,105,112]⟩,nam,⟨ia,il,ic⟩,out,⟨ao,al,cap⟩⟩) (BX.out w1 G1.out);clear hg1;simp only at n0 n1 n2 n3 n4) | (go_at_call 33;refine (jpy lo hi _).mono ?_;rintro e w3 ⟨rfl,hg3,hb1,hb2⟩;have G3:=jac (jaa g0.out (jaa G2.out hg3));have HB1:=jac hb1;have HB2:=jac hb2;obtain ⟨n0,n1,n2,n3,n4⟩:=jak (n:=⟨⟨#[67,108,105,112]⟩,nam,⟨ia,il,ic⟩,out,⟨ao,al,cap⟩⟩) (BX.out w3 (jaa G2.out hg3));clear hg3 hb1 hb2;simp only at n0 n1 n2 n3 n4) | fail)
     all_goals
      go_wp2;go_ret;exact ⟨_,_,rfl,G3.out,HB1.out,HB2.out⟩
end Go.Proofs.YteigfipgmghgmaaGreatDoor
