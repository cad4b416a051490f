/- A part. -/
import Derived.Test.YteigfipgmghgmaaGreatDoorQartBN
import Derived.Test.YteigfipgmghgmaaGreatDoorQartBF
import Derived.Test.YteigfipgmghgmaaGreatDoorQartAR
namespace Go.Proofs.YteigfipgmghgmaaGreatDoor
open Go.RowKit
def G2 (k:Nat) (t:Int) (xs:List Int):Int×Int:=if (-9223372036854775808≤xs.getD 0 0∧xs.getD 0 0≤9223372036854775807)∧(-9223372036854775808≤xs.getD 1 0∧xs.getD 1 0≤9223372036854775807) then Nu.bin k t (xs.getD 0 0) (xs.getD 1 0) else (0,0)
theorem jdT (n:Int) : -9223372036854775808≤wrap64 n∧wrap64 n≤9223372036854775807:=by
 unfold wrap64;omega
theorem jcX (b:Bool) : -9223372036854775808≤Nu.b2i b∧Nu.b2i b≤9223372036854775807:=by cases b <;> decide
theorem jbD (r:Nat) (h:r<4294967296) : -9223372036854775808≤Nu.tob r∧Nu.tob r≤9223372036854775807:=by
 unfold Nu.tob
 split
 ·omega
 ·omega
theorem jeb (op:BinOp) (x y:Nat) : -9223372036854775808≤Nu.tobO (floatBits op .f32 x y)∧Nu.tobO (floatBits op .f32 x y)≤9223372036854775807:=by
 cases h:floatBits op .f32 x y with
 | none=>simp [Nu.tobO]
 | some r =>
  have h1:=floatBits_wf h;exact jbD r (by simpa [Lit.wf] using h1)
theorem jec (x:Int):Nu.fb x<4294967296:=by
 unfold Nu.fb;omega
theorem jpR (x y:Nat) (hx:x<4294967296) (hy:y<4294967296) : -9223372036854775808≤Nu.maxF x y∧Nu.maxF x y≤9223372036854775807:=by
 unfold Nu.maxF
 split
 ·decide
 ·exact jbD _ hy
 ·exact jbD _ hx
 ·split
  ·exact jbD _ hy
  ·exact jbD _ hx
theorem jpS (x y:Nat) (hx:x<4294967296) (hy:y<4294967296) : -9223372036854775808≤Nu.minF x y∧Nu.minF x y≤9223372036854775807:=by
 unfold Nu.minF
 split
 ·decide
 ·exact jbD _ hx
 ·exact jbD _ hy
 ·split
  ·exact jbD _ hx
  ·exact jbD _ hy
theorem jbU (t n:Int) (h : -9223372036854775808≤n∧n≤9223372036854775807) : -9223372036854775808≤Nu.wrapT t n∧Nu.wrapT t n≤9223372036854775807:=by
 unfold Nu.wrapT
 split
 ·exact jdT _
 ·exact h
theorem jil (k x y:Nat) (hx:x<4294967296) (hy:y<4294967296) : -9223372036854775808≤(Nu.binFl k x y).1∧(Nu.binFl k x y).1≤9223372036854775807:=by
 unfold Nu.binFl
 split
 ·exact jeb _ _ _
 ·exact jeb _ _ _
 ·exact jeb _ _ _
 ·exact jeb _ _ _
 ·exact jpR _ _ hx hy
 ·exact jpS _ _ hx hy
 ·exact jcX _
 ·exact jcX _
 ·exact jcX _
 ·decide
theorem jnS (k:Nat) (t x y:Int) (hx : -9223372036854775808≤x∧x≤9223372036854775807) (hy : -9223372036854775808≤y∧y≤9223372036854775807) : -9223372036854775808≤(Nu.binIn k t x y).1∧(Nu.binIn k t x y).1≤9223372036854775807:=by
 unfold Nu.binIn
 split
 ·exact jbU _ _ (jdT _)
 ·exact jbU _ _ (jdT _)
 ·exact jbU _ _ (jdT _)
 ·split
  ·decide
  ·exact jbU _ _ (jdT _)
 ·refine jbU _ _ ?_;unfold Nu.maxI
  split
  ·exact hy
  ·exact hx
 ·refine jbU _ _ ?_;unfold Nu.minI
  split
  ·exact hy
  ·exact hx
 ·exact jcX _
 ·exact jcX _
 ·exact jcX _
 ·decide
theorem jnT (k:Nat) (x y:Int) (hx:x=0∨x=1) (hy:y=0∨y=1) : -9223372036854775808≤(Nu.binBo k x y).1∧(Nu.binBo k x y).1≤9223372036854775807:=by
 unfold Nu.binBo
 split
 ·rcases hx with rfl | rfl <;> rcases hy with rfl | rfl <;> decide
 ·rcases hx with rfl | rfl <;> rcases hy with rfl | rfl <;> decide
 ·rcases hx with rfl | rfl <;> rcases hy with rfl | rfl <;> decide
 ·exact jcX _
 ·decide
theorem jnU {x:Int} (h:Nu.chk 9 x=true):x=0∨x=1:=by simpa [Nu.chk] using h
theorem jsK (k:Nat) (t:Int) (xs:List Int) : -9223372036854775808≤(G2 k t xs).1∧(G2 k t xs).1≤9223372036854775807:=by
 unfold G2
 split
 ·rename_i hr;unfold Nu.bin
  split
  ·rename_i h;rw [Bool.and_eq_true] at h
   split
   ·exact jil _ _ _ (jec _) (jec _)
   ·split
    ·rename_i h9;subst h9;exact jnT _ _ _ (jnU h.1) (jnU h.2)
    ·exact jnS _ _ _ _ hr.1 hr.2
  ·decide
 ·decide
def kOf (op:ByteArray):Option Nat:=jdc.idxOf? op.toList
def tv (t:Int) (x:List Int):Val×List Int:=(⟨⟨#[]⟩,t,jgV⟩,x)
theorem jjU:∀ {vs us:List (Val×List Int)},vs.map (·.1.ty)=us.map (·.1.ty)→vs.map (·.2)=us.map (·.2)→jeg vs=jeg us
 | [],[],_,_=>rfl
 | p::l,q::m,h1,h2=>by
  simp only [List.map_cons,List.cons.injEq] at h1 h2;simp only [jeg];rw [h1.1,h2.1,jjU h1.2 h2.2]
 | [],q::m,h1,_=>by simp at h1
 | p::l,[],h1,_=>by simp at h1
theorem jnV {n:Nod} {ins:List ByteArray} {A:At} {vs us:List (Val×List Int)} (h1:vs.map (·.1.ty)=us.map (·.1.ty)) (h2:vs.map (·.2)=us.map (·.2)):jlb n ins A vs=jlb n ins A us:=by
 have hl:vs.length=us.length:=by simpa using congrArg List.length h1
 have ht:jaB vs=jaB us:=h1;have hd:jd8 vs=jd8 us:=h2;unfold jlb jbw;rw [hl,ht,hd,jjU h1 h2]
theorem jk6 {a b:ByteArray} (h:a.toList=b.toList):a=b:=by
 rw [jak,jak] at h;exact ByteArray.ext (Array.ext' h)
theorem jbJ {a:ByteArray} {l:List UInt8} (h:a.toList=l):a=⟨l.toArray⟩:=by
 rw [jak] at h;subst h
 rfl
theorem jnW {op:ByteArray} (h:op.toList∈jdc):op∈([⟨#[65,100,100]⟩,⟨#[83,117,98]⟩,⟨#[77,117,108]⟩,⟨#[68,105,118]⟩,⟨#[77,97,120]⟩,⟨#[77,105,110]⟩,⟨#[65,110,100]⟩,⟨#[79,114]⟩,⟨#[88,111,114]⟩,⟨#[69,113,117,97,108]⟩,⟨#[76,101,115,115]⟩,⟨#[71,114,101,97,116,101,114]⟩]:List ByteArray):=by
 simp only [jdc,List.mem_cons,List.not_mem_nil,or_false] at h ⊢
 rcases h with h | h | h | h | h | h | h | h | h | h | h | h
 ·exact .inl (jbJ h)
 ·exact .inr (.inl (jbJ h))
 ·exact .inr (.inr (.inl (jbJ h)))
 ·exact .inr (.inr (.inr (.inl (jbJ h))))
 ·exact .inr (.inr (.inr (.inr (.inl (jbJ h)))))
 ·exact .inr (.inr (.inr (.inr (.inr (.inl (jbJ h))))))
 ·exact .inr (.inr (.inr (.inr (.inr (.inr (.inl (jbJ h)))))))
 ·exact .inr (.inr (.inr (.inr (.inr (.inr (.inr (.inl (jbJ h))))))))
 ·exact .inr (.inr (.inr (.inr (.inr (.inr (.inr (.inr (.inl (jbJ h)))))))))
 ·exact .inr (.inr (.inr (.inr (.inr (.inr (.inr (.inr (.inr (.inl (jbJ h))))))))))
 ·exact .inr (.inr (.inr (.inr (.inr (.inr (.inr (.inr (.inr (.inr (.inl (jbJ h)))))))))))
 ·exact .inr (.inr (.inr (.inr (.inr (.inr (.inr (.inr (.inr (.inr (.inr (jbJ h)))))))))))
theorem jnX {α:Type} [BEq α] [LawfulBEq α] {l:List α} {a:α} {k:Nat} (h:l.idxOf? a=some k):a∈l:=by
 rw [List.idxOf?_eq_some_iff] at h;obtain ⟨h1,h2,-⟩:=h;exact h2 ▸ List.getElem_mem h1
theorem jnY {op:ByteArray} {k:Nat} (h:kOf op=some k):op∈([⟨#[65,100,100]⟩,⟨#[83,117,98]⟩,⟨#[77,117,108]⟩,⟨#[68,105,118]⟩,⟨#[77,97,120]⟩,⟨#[77,105,110]⟩,⟨#[65,110,100]⟩,⟨#[79,114]⟩,⟨#[88,111,114]⟩,⟨#[69,113,117,97,108]⟩,⟨#[76,101,115,115]⟩,⟨#[71,114,101,97,116,101,114]⟩]:List ByteArray):=jnW (jnX h)
end Go.Proofs.YteigfipgmghgmaaGreatDoor
