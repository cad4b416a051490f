/- A part. -/
import Derived.Test.YteigfipgmghgmaaGreatDoorVartAV
import Derived.Test.YteigfipgmghgmaaGreatDoorVartAU
import Derived.Test.YteigfipgmghgmaaGreatDoorVartAW
import Derived.Test.YteigfipgmghgmaaGreatDoorVartAX
import Derived.Test.YteigfipgmghgmaaGreatDoorVartAY
import Derived.Test.YteigfipgmghgmaaGreatDoorVartAZ
set_option maxRecDepth 100000
namespace Go.Proofs.YteigfipgmghgmaaGreatDoor
open Go.RowKit
def grps:List (List UInt8×Nat×Nat):=[
 ([73,100,101,110,116,105,116,121],10,1),
 ([78,101,103],10,1),
 ([65,98,115],10,1),
 ([78,111,116],10,1),
 ([82,101,108,117],10,1),
 ([83,113,114,116],10,1),
 ([70,108,111,111,114],10,1),
 ([69,120,112],10,1),
 ([83,105,103,109,111,105,100],10,1),
 ([84,97,110,104],10,1),
 ([65,100,100],9,2),
 ([83,117,98],9,2),
 ([77,117,108],9,2),
 ([68,105,118],9,2),
 ([77,97,120],9,2),
 ([77,105,110],9,2),
 ([65,110,100],9,2),
 ([79,114],9,2),
 ([88,111,114],9,2),
 ([69,113,117,97,108],8,2),
 ([76,101,115,115],8,2),
 ([71,114,101,97,116,101,114],8,2),
 ([77,97,116,77,117,108],7,16),
 ([87,104,101,114,101],2,3),
 ([67,108,105,112],7,1),
 ([67,97,115,116],1,1),
 ([82,101,100,117,99,101,83,117,109],5,5),
 ([82,101,100,117,99,101,77,97,120],5,5),
 ([82,101,100,117,99,101,77,101,97,110],7,5),
 ([65,114,103,77,97,120],6,5),
 ([82,101,115,104,97,112,101],3,6),
 ([69,120,112,97,110,100],3,7),
 ([84,114,97,110,115,112,111,115,101],3,8),
 ([67,111,110,99,97,116],3,9),
 ([83,108,105,99,101],3,10),
 ([71,97,116,104,101,114],4,11),
 ([80,97,100],7,12),
 ([83,113,117,101,101,122,101],3,13),
 ([85,110,115,113,117,101,101,122,101],3,14),
 ([70,108,97,116,116,101,110],3,15),
 ([83,111,102,116,109,97,120],7,4),
 ([71,101,109,109],7,17),
 ([67,111,110,118],7,18),
 ([77,97,120,80,111,111,108],7,19),
 ([65,118,101,114,97,103,101,80,111,111,108],7,19),
 ([71,108,111,98,97,108,65,118,101,114,97,103,101,80,111,111,108],7,20),
 ([66,97,116,99,104,78,111,114,109,97,108,105,122,97,116,105,111,110],7,21),
 ([67,111,110,115,116,97,110,116],0,0)]
def grp (op:ByteArray):Nat×Nat:=((grps.find? (fun r=>r.1==op.toList)).map (·.2)).getD (99,99)
def juP (A:At):List Int:=match (A.xs.zip A.cs).find? (fun p=>isA ⟨#[118,97,108,117,101]⟩ 4 p.1) with
 | some p=>p.2.d
 | none=>[]
def jdg (A:At) (ts:List Int):Nat→R Int
 | 0=>.ok (jfv A).ty
 | 1=>(jiJ (jbA (A.int ⟨#[116,111]⟩ 0))).bind (fun _=>.ok (jbA (A.int ⟨#[116,111]⟩ 0)))
 | 2=>(jal (ts.getD 0 0==9)).bind (fun _=>jaO ts.tail)
 | 3=>jaO ts
 | 4=>(jal (ts.getD 1 0==6||ts.getD 1 0==7)).bind (fun _=>.ok (ts.getD 0 0))
 | 5=>(jal (ts.getD 0 0 != 9)).bind (fun _=>.ok (ts.getD 0 0))
 | 6=>(jal (ts.getD 0 0 != 9)).bind (fun _=>.ok (7:Int))
 | 7=>(jaO ts).bind (fun t=>(jal (t==1)).bind (fun _=>.ok (1:Int)))
 | 8=>(jaO ts).bind (fun t=>(jal (jbn A.op.toList t)).bind (fun _=>.ok (9:Int)))
 | 9=>(jaO ts).bind (fun t=>(jal (jbn A.op.toList t)).bind (fun _=>.ok t))
 | 10=>(jaO ts).bind (fun t=>(jal (jcx A.op.toList t)).bind (fun _=>.ok t))
 | _=>.error 5
def jfn (A:At) (D:List (List Int)):Nat→R (List Int)
 | 0=>.ok (juP A)
 | 1=>.ok (D.getD 0 [])
 | 2=>jaE (D.getD 0 []) (D.getD 1 [])
 | 3=>(jaE (D.getD 0 []) (D.getD 1 [])).bind (fun l=>jaE l (D.getD 2 []))
 | 4=>(jb7 (jca A (D.getD 0 []).length) (D.getD 0 []).length).bind (fun _=>.ok (D.getD 0 []))
 | 5=>jcl A (D.getD 0 [])
 | 6=>jaS (D.getD 0 []) (A.ints ⟨#[115,104,97,112,101]⟩ [])
 | 7=>jaE (D.getD 0 []) ((A.ints ⟨#[115,104,97,112,101]⟩ []).map jbA)
 | 8=>jbc A (D.getD 0 [])
 | 9=>jcI A (D.getD 0 []) D.tail
 | 10=>jct A (D.getD 0 [])
 | 11=>jf7 A (D.getD 0 []) (D.getD 1 [])
 | 12=>jcU (D.getD 0 []) (A.ints ⟨#[112,97,100,115]⟩ [])
 | 13=>jbL (D.getD 0 []) (A.ints ⟨#[97,120,101,115]⟩ [])
 | 14=>jbw (D.getD 0 []) (A.ints ⟨#[97,120,101,115]⟩ [])
 | 15=>jbG A (D.getD 0 [])
 | 16=>ja6 (D.getD 0 []) (D.getD 1 [])
 | 17=>jdc A (D.getD 0 []) (D.getD 1 []) (D.drop 2).head?
 | 18=>ja0 A (D.getD 0 []) (D.getD 1 []) (D.drop 2).head?
 | 19=>jbI A (D.getD 0 [])
 | 20=>(jal (decide ((D.getD 0 []).length=4))).bind (fun _=>.ok [(D.getD 0 []).getD 0 0,(D.getD 0 []).getD 1 0,1,1])
 | 21=>jbl (D.getD 0 []) D.tail
 | _=>.error 5
def jdM (vs:List (Val×List Int)):List (List Int):=vs.map (·.2)
structure NodeAll (w:World) (n:Nod) (ins:List ByteArray) (A:At):Prop where
 node:NodeIn w n ins A.xs A.cs
 op:A.op=n.op
 rng:∀ a∈A.xs,-9223372036854775808≤a.i∧a.i≤9223372036854775807
 lens:∀ c∈A.cs,c.i.length≤1048576
 out:n.out.size≤1048576
theorem NodeAll.more {w w':World} {n:Nod} {ins:List ByteArray} {A:At} (h:NodeAll w n ins A) (hg:w.grownBy w' none):NodeAll w' n ins A:=⟨h.node.more hg,h.op,h.rng,h.lens,h.out⟩
theorem NodeAll.ok {w:World} {n:Nod} {ins:List ByteArray} {A:At} (h:NodeAll w n ins A):NodeOk w n A:=⟨h.op,h.node.av,h.node.has,h.rng⟩
theorem NodeAll.ints_len {w:World} {n:Nod} {ins:List ByteArray} {A:At} (h:NodeAll w n ins A) (nm:ByteArray):(A.ints nm []).length≤100000000:=by
 unfold At.ints jgw
 cases hf:(A.xs.zip A.cs).find? (fun p=>isA nm 7 p.1) with
 | none=>simp
 | some p =>
  have h1:=List.mem_of_find?_eq_some hf;have h2:=h.lens p.2 (List.of_mem_zip h1).2;simp only;omega
theorem jlm:∀ {vs:List (Val×List Int)},jeL vs=.ok ()→∀ p∈vs,jao p.1.ty=true∧Fine p.2
 | [],_,p,hp=>by cases hp
 | q::l,h,p,hp=>by
  simp only [jeL] at h
  have h1:jao q.1.ty=true:=by
   unfold jiJ at h
   by_cases e:jao q.1.ty=true
   ·exact e
   ·rw [if_neg e] at h;cases h
  have e1:jiJ q.1.ty=.ok ():=by unfold jiJ;rw [if_pos h1]
  rw [e1] at h
  have h2:ja2 q.2=0:=by
   by_cases e:ja2 q.2=0
   ·exact e
   ·have:jaX q.2=.error (ja2 q.2):=by unfold jaX;rw [if_neg e]
    rw [this] at h;cases h
  have e2:jaX q.2=.ok (jaA q.2):=by unfold jaX;rw [if_pos h2]
  rw [e2] at h
  rcases List.mem_cons.1 hp with rfl | hp
  ·exact ⟨h1,jbb h2⟩
  ·exact jlm h p hp
theorem jhc {α:Type} {w w':World} {r:R α} {Q Q':α→Value→World→Prop} {e:Ending} (h:jaJ w r Q e w') (hq:∀ a v,r=.ok a→Q a v w'→Q' a v w'):jaJ w r Q' e w':=by
 cases r with
 | error c=>exact h
 | ok a =>
  obtain ⟨hg,v,he,hv⟩:=h;exact ⟨hg,v,he,hq a v rfl hv⟩
theorem jeQ {ts:List Int} {t:Int} (h:jaO ts=.ok t) (h0:0<ts.length):t∈ts:=by
 cases ts with
 | nil=>simp at h0
 | cons a l =>
  simp only [jaO] at h
  by_cases e:l.all (fun s=>s==a)=true
  ·rw [if_pos e] at h;obtain rfl:a=t:=by cases h;rfl
   simp
  ·rw [if_neg e] at h;cases h
theorem jaZ {α β:Type} {r:R α} {f:α→R β} {b:β} (h:r.bind f=.ok b):∃ a,r=.ok a∧f a=.ok b:=by
 cases r with
 | error c=>cases h
 | ok a=>exact ⟨a,rfl,h⟩
theorem isT1:jao 1=true:=by decide
theorem isT7:jao 7=true:=by decide
theorem isT9:jao 9=true:=by decide
theorem jtE {t:Int} {u:Unit} (h:jiJ t=.ok u):jao t=true:=by
 unfold jiJ at h
 by_cases e:jao t=true
 ·exact e
 ·rw [if_neg e] at h;cases h
theorem jrn {A:At} {ts:List Int} {g:Nat} {t:Int} (h:jdg A ts g=.ok t) (hc:g=0→jao (jfv A).ty=true) (ht:∀ s∈ts,jao s=true) (hn:g≠0→g≠1→0<ts.length) (h3:g=2→1<ts.length):jao t=true:=by
 match g with
 | 0=>simp only [jdg] at h;cases h;exact hc rfl
 | 1=>obtain ⟨a,h1,h2⟩:=jaZ h;cases h2;exact jtE h1
 | 2 =>
  obtain ⟨a,h1,h2⟩:=jaZ h;have:=h3 rfl;exact ht t (List.mem_of_mem_tail (jeQ h2 (by rw [List.length_tail];omega)))
 | 3=>exact ht t (jeQ h (hn (by decide) (by decide)))
 | 4=>obtain ⟨a,h1,h2⟩:=jaZ h;cases h2;exact ht _ (jaU (hn (by decide) (by decide)))
 | 5=>obtain ⟨a,h1,h2⟩:=jaZ h;cases h2;exact ht _ (jaU (hn (by decide) (by decide)))
 | 6=>obtain ⟨a,h1,h2⟩:=jaZ h;cases h2;exact isT7
 | 7=>obtain ⟨a,h1,h2⟩:=jaZ h;obtain ⟨b,h3,h4⟩:=jaZ h2;cases h4;exact isT1
 | 8=>obtain ⟨a,h1,h2⟩:=jaZ h;obtain ⟨b,h3,h4⟩:=jaZ h2;cases h4;exact isT9
 | 9=>obtain ⟨a,h1,h2⟩:=jaZ h;obtain ⟨b,h3,h4⟩:=jaZ h2;cases h4;exact ht _ (jeQ h1 (hn (by decide) (by decide)))
 | 10=>obtain ⟨a,h1,h2⟩:=jaZ h;obtain ⟨b,h3,h4⟩:=jaZ h2;cases h4;exact ht _ (jeQ h1 (hn (by decide) (by decide)))
 | n+11=>simp [jdg] at h
theorem jmv {op:ByteArray} {l:List UInt8} (h:op.toList=l):op=⟨l.toArray⟩:=by
 rw [jaj] at h
 cases op with
 | mk d=>simp only at h;subst h;simp
theorem jch {α:Type} {vs:List α} (h:vs.length=1):∃ a,vs=[a]:=by
 match vs,h with
 | [a],_=>exact ⟨a,rfl⟩
theorem jku {α:Type} {vs:List α} (h:vs.length=2):∃ a b,vs=[a,b]:=by
 match vs,h with
 | [a,b],_=>exact ⟨a,b,rfl⟩
theorem jjb {α:Type} {vs:List α} (h:vs.length=3):∃ a b c,vs=[a,b,c]:=by
 match vs,h with
 | [a,b,c],_=>exact ⟨a,b,c,rfl⟩
theorem jo4 (w:World):IsInts w (.slice none 0 0) []:=⟨none,0,rfl,by simp,by simp,by simp,fun _=>⟨rfl,rfl⟩,fun h=>by simp at h,fun z hz=>by simp at hz⟩
def jcV (n:Nod) (A:At) (u:Sl) (vs:List (Val×List Int)) (w:World) (g:Nat):Prop:=Calls Tryz.prog 74 #[jaz n,.slice u.a u.n u.c] w (jaJ w (jdg A (jaD vs) g) fun t v _=>v=.int .i64 t)
def jb8 (n:Nod) (A:At) (u:Sl) (vs:List (Val×List Int)) (w:World) (g:Nat):Prop:=Calls Tryz.prog 75 #[jaz n,.slice u.a u.n u.c] w (jaJ w (jfn A (jdM vs) g) jbd)
section
variable {n : Nod} {ins : List ByteArray} {A : At} {u : Sl} {vs : List (Val × List Int)} {w : World}
theorem jdN (hop:n.op∈([⟨#[67,111,110,99,97,116]⟩,⟨#[82,101,115,104,97,112,101]⟩,⟨#[69,120,112,97,110,100]⟩,⟨#[84,114,97,110,115,112,111,115,101]⟩,⟨#[83,108,105,99,101]⟩,⟨#[83,113,117,101,101,122,101]⟩,⟨#[85,110,115,113,117,101,101,122,101]⟩,⟨#[70,108,97,116,116,101,110]⟩]:List ByteArray)) (hn:NodeAll w n ins A) (hv:ValsIn w u.v vs) (ht:∀ s∈jaD vs,jao s=true) (hl:0<vs.length) (hf:vs.length≤1000000):jcV n A u vs w 3:=by
 exact joL n A u vs w hop hn.ok hv hl hf ht
theorem jb5 (hop:n.op∈([⟨#[67,108,105,112]⟩,⟨#[83,111,102,116,109,97,120]⟩,⟨#[82,101,100,117,99,101,77,101,97,110]⟩,⟨#[80,97,100]⟩,⟨#[77,97,116,77,117,108]⟩,⟨#[71,101,109,109]⟩,⟨#[67,111,110,118]⟩,⟨#[77,97,120,80,111,111,108]⟩,⟨#[65,118,101,114,97,103,101,80,111,111,108]⟩,⟨#[71,108,111,98,97,108,65,118,101,114,97,103,101,80,111,111,108]⟩,⟨#[66,97,116,99,104,78,111,114,109,97,108,105,122,97,116,105,111,110]⟩]:List ByteArray)) (hn:NodeAll w n ins A) (hv:ValsIn w u.v vs) (ht:∀ s∈jaD vs,jao s=true) (hl:0<vs.length) (hf:vs.length≤1000000):jcV n A u vs w 7:=by
 exact jmf n A u vs w hop hn.ok hv hl hf ht
theorem jeR (hop:n.op∈([⟨#[65,100,100]⟩,⟨#[83,117,98]⟩,⟨#[77,117,108]⟩,⟨#[68,105,118]⟩,⟨#[77,97,120]⟩,⟨#[77,105,110]⟩,⟨#[65,110,100]⟩,⟨#[79,114]⟩,⟨#[88,111,114]⟩]:List ByteArray)) (hn:NodeAll w n ins A) (hv:ValsIn w u.v vs) (ht:∀ s∈jaD vs,jao s=true) (hl:vs.length=2) (hf:vs.length≤1000000):jcV n A u vs w 9:=by
 unfold jcV jdg;rw [hn.op];exact jrc n A u vs w hop hn.ok hv hl hf ht
theorem jei (hop:n.op∈([⟨#[73,100,101,110,116,105,116,121]⟩,⟨#[78,101,103]⟩,⟨#[65,98,115]⟩,⟨#[78,111,116]⟩,⟨#[82,101,108,117]⟩,⟨#[83,113,114,116]⟩,⟨#[70,108,111,111,114]⟩,⟨#[69,120,112]⟩,⟨#[83,105,103,109,111,105,100]⟩,⟨#[84,97,110,104]⟩]:List ByteArray)) (hn:NodeAll w n ins A) (hv:ValsIn w u.v vs) (ht:∀ s∈jaD vs,jao s=true) (hl:vs.length=1) (hf:vs.length≤1000000):jcV n A u vs w 10:=by
 unfold jcV jdg;rw [hn.op];exact jrd n A u vs w hop hn.ok hv hl hf ht
theorem jmP (hop:n.op∈([⟨#[73,100,101,110,116,105,116,121]⟩,⟨#[78,101,103]⟩,⟨#[65,98,115]⟩,⟨#[78,111,116]⟩,⟨#[82,101,108,117]⟩,⟨#[83,113,114,116]⟩,⟨#[70,108,111,111,114]⟩,⟨#[69,120,112]⟩,⟨#[83,105,103,109,111,105,100]⟩,⟨#[84,97,110,104]⟩,⟨#[67,108,105,112]⟩,⟨#[67,97,115,116]⟩]:List ByteArray)) (hn:NodeAll w n ins A) (hv:ValsIn w u.v vs) (_hf:∀ p∈vs,Fine p.2) (hl:vs.length=1):jb8 n A u vs w 1:=by
 obtain ⟨⟨v0,x⟩,rfl⟩:=jch hl;exact juO n A u v0 x w hop hn.ok hv
theorem jdp (hop:n.op∈([⟨#[65,100,100]⟩,⟨#[83,117,98]⟩,⟨#[77,117,108]⟩,⟨#[68,105,118]⟩,⟨#[77,97,120]⟩,⟨#[77,105,110]⟩,⟨#[65,110,100]⟩,⟨#[79,114]⟩,⟨#[88,111,114]⟩,⟨#[69,113,117,97,108]⟩,⟨#[76,101,115,115]⟩,⟨#[71,114,101,97,116,101,114]⟩]:List ByteArray)) (hn:NodeAll w n ins A) (hv:ValsIn w u.v vs) (_hf:∀ p∈vs,Fine p.2) (hl:vs.length=2):jb8 n A u vs w 2:=by
 obtain ⟨⟨v0,x⟩,⟨v1,y⟩,rfl⟩:=jku hl;exact jrk n A u v0 v1 x y w hop hn.ok hv
theorem jd5 (hop:n.op∈([⟨#[82,101,100,117,99,101,83,117,109]⟩,⟨#[82,101,100,117,99,101,77,97,120]⟩,⟨#[82,101,100,117,99,101,77,101,97,110]⟩,⟨#[65,114,103,77,97,120]⟩]:List ByteArray)) (hn:NodeAll w n ins A) (hv:ValsIn w u.v vs) (hf:∀ p∈vs,Fine p.2) (hl:vs.length=1):jb8 n A u vs w 5:=by
 obtain ⟨⟨v0,x⟩,rfl⟩:=jch hl;exact ji6 n A u v0 x w hop hn.ok hv (hf (v0,x) (by simp))
theorem jia (hop:n.op∈([⟨#[84,114,97,110,115,112,111,115,101]⟩]:List ByteArray)) (hn:NodeAll w n ins A) (hv:ValsIn w u.v vs) (hf:∀ p∈vs,Fine p.2) (hl:vs.length=1):jb8 n A u vs w 8:=by
 obtain ⟨⟨v0,x⟩,rfl⟩:=jch hl;exact jf4 n A u v0 x w hop hn.ok hv (hf (v0,x) (by simp))
theorem jo5 (hop:n.op∈([⟨#[83,108,105,99,101]⟩]:List ByteArray)) (hn:NodeAll w n ins A) (hv:ValsIn w u.v vs) (hf:∀ p∈vs,Fine p.2) (hl:vs.length=1):jb8 n A u vs w 10:=by
 obtain ⟨⟨v0,x⟩,rfl⟩:=jch hl;exact jkm n A u v0 x w hop hn.ok hv (hf (v0,x) (by simp))
theorem jjc (hop:n.op∈([⟨#[70,108,97,116,116,101,110]⟩]:List ByteArray)) (hn:NodeAll w n ins A) (hv:ValsIn w u.v vs) (hf:∀ p∈vs,Fine p.2) (hl:vs.length=1):jb8 n A u vs w 15:=by
 obtain ⟨⟨v0,x⟩,rfl⟩:=jch hl;exact jgD n A u v0 x w hop hn.ok hv (hf (v0,x) (by simp))
theorem jjd (hop:n.op∈([⟨#[77,97,120,80,111,111,108]⟩,⟨#[65,118,101,114,97,103,101,80,111,111,108]⟩]:List ByteArray)) (hn:NodeAll w n ins A) (hv:ValsIn w u.v vs) (hf:∀ p∈vs,Fine p.2) (hl:vs.length=1):jb8 n A u vs w 19:=by
 obtain ⟨⟨v0,x⟩,rfl⟩:=jch hl;exact jkn n A u v0 x w hop hn.ok hv (hf (v0,x) (by simp))
theorem jmw (hop:n.op∈([⟨#[77,97,116,77,117,108]⟩]:List ByteArray)) (hn:NodeAll w n ins A) (hv:ValsIn w u.v vs) (hf:∀ p∈vs,Fine p.2) (hl:vs.length=2):jb8 n A u vs w 16:=by
 obtain ⟨⟨v0,x⟩,⟨v1,y⟩,rfl⟩:=jku hl;exact ji7 n A u v0 v1 x y w hop hn.ok hv (hf (v0,x) (by simp)) (hf (v1,y) (by simp))
theorem jmx (hop:n.op∈([⟨#[82,101,115,104,97,112,101]⟩]:List ByteArray)) (hn:NodeAll w n ins A) (hv:ValsIn w u.v vs) (hf:∀ p∈vs,Fine p.2) (hl:vs.length=1):jb8 n A u vs w 6:=by
 obtain ⟨⟨v0,x⟩,rfl⟩:=jch hl;exact ji8 n A u v0 x w hop hn.ok hv (hf (v0,x) (by simp)) (hn.ints_len _)
theorem juQ (hop:n.op∈([⟨#[80,97,100]⟩]:List ByteArray)) (hn:NodeAll w n ins A) (hv:ValsIn w u.v vs) (hf:∀ p∈vs,Fine p.2) (hl:vs.length=1):jb8 n A u vs w 12:=by
 obtain ⟨⟨v0,x⟩,rfl⟩:=jch hl;exact jrl n A u v0 x w hop hn.ok hv (hf (v0,x) (by simp))
theorem jmy (hop:n.op∈([⟨#[83,113,117,101,101,122,101]⟩]:List ByteArray)) (hn:NodeAll w n ins A) (hv:ValsIn w u.v vs) (hf:∀ p∈vs,Fine p.2) (hl:vs.length=1):jb8 n A u vs w 13:=by
 obtain ⟨⟨v0,x⟩,rfl⟩:=jch hl;exact ji9 n A u v0 x w hop hn.ok hv (hf (v0,x) (by simp))
theorem jje (hop:n.op∈([⟨#[85,110,115,113,117,101,101,122,101]⟩]:List ByteArray)) (hn:NodeAll w n ins A) (hv:ValsIn w u.v vs) (hf:∀ p∈vs,Fine p.2) (hl:vs.length=1):jb8 n A u vs w 14:=by
 obtain ⟨⟨v0,x⟩,rfl⟩:=jch hl;exact jgE n A u v0 x w hop hn.ok hv (hf (v0,x) (by simp)) (hn.ints_len _)
theorem jkv (hop:n.op=⟨#[69,113,117,97,108]⟩) (hn:NodeAll w n ins A) (hv:ValsIn w u.v vs) (ht:∀ s∈jaD vs,jao s=true) (hl:vs.length=2):jcV n A u vs w 8:=by
 have ao:A.op.toList=[69,113,117,97,108]:=by rw [hn.op,hop,jaj]
 unfold jcV jdg;simp only [ao];exact jmk n A u vs w hop hn.ok hv hl (by omega) ht
theorem jmz (hop:n.op=⟨#[76,101,115,115]⟩) (hn:NodeAll w n ins A) (hv:ValsIn w u.v vs) (ht:∀ s∈jaD vs,jao s=true) (hl:vs.length=2):jcV n A u vs w 8:=by
 have ao:A.op.toList=[76,101,115,115]:=by rw [hn.op,hop,jaj]
 unfold jcV jdg;simp only [ao];exact joQ n A u vs w hop hn.ok hv hl (by omega) ht
theorem jib (hop:n.op=⟨#[71,114,101,97,116,101,114]⟩) (hn:NodeAll w n ins A) (hv:ValsIn w u.v vs) (ht:∀ s∈jaD vs,jao s=true) (hl:vs.length=2):jcV n A u vs w 8:=by
 have ao:A.op.toList=[71,114,101,97,116,101,114]:=by rw [hn.op,hop,jaj]
 unfold jcV jdg;simp only [ao];exact ji3 n A u vs w hop hn.ok hv hl (by omega) ht
theorem jkw (hop:n.op=⟨#[87,104,101,114,101]⟩) (hn:NodeAll w n ins A) (hv:ValsIn w u.v vs) (_ht:∀ s∈jaD vs,jao s=true) (hl:vs.length=3):jcV n A u vs w 2:=by
 obtain ⟨p0,p1,p2,rfl⟩:=jjb hl;exact jmq n A u p0 p1 p2 w hop hn.ok hv
theorem jkx (hop:n.op=⟨#[87,104,101,114,101]⟩) (hn:NodeAll w n ins A) (hv:ValsIn w u.v vs) (_hf:∀ p∈vs,Fine p.2) (hl:vs.length=3):jb8 n A u vs w 3:=by
 obtain ⟨⟨v0,x⟩,⟨v1,y⟩,⟨v2,z⟩,rfl⟩:=jjb hl;exact jmr n A u v0 v1 v2 x y z w hop hn.ok hv
theorem jmA (hop:n.op=⟨#[67,97,115,116]⟩) (hn:NodeAll w n ins A) (_hv:ValsIn w u.v vs) (_ht:∀ s∈jaD vs,jao s=true) (_hl:vs.length=1):jcV n A u vs w 1:=by
 exact joP n A u w hop hn.ok
theorem jf8 (hop:n.op=⟨#[82,101,100,117,99,101,83,117,109]⟩) (hn:NodeAll w n ins A) (hv:ValsIn w u.v vs) (ht:∀ s∈jaD vs,jao s=true) (hl:vs.length=1):jcV n A u vs w 5:=by
 exact jgA n A u vs w hop hn.ok hv hl (by omega) ht
theorem jf9 (hop:n.op=⟨#[82,101,100,117,99,101,77,97,120]⟩) (hn:NodeAll w n ins A) (hv:ValsIn w u.v vs) (ht:∀ s∈jaD vs,jao s=true) (hl:vs.length=1):jcV n A u vs w 5:=by
 exact jgB n A u vs w hop hn.ok hv hl (by omega) ht
theorem jjf (hop:n.op=⟨#[65,114,103,77,97,120]⟩) (hn:NodeAll w n ins A) (hv:ValsIn w u.v vs) (ht:∀ s∈jaD vs,jao s=true) (hl:vs.length=1):jcV n A u vs w 6:=by
 exact jki n A u vs w hop hn.ok hv hl (by omega) ht
theorem jjg (hop:n.op=⟨#[69,120,112,97,110,100]⟩) (hn:NodeAll w n ins A) (hv:ValsIn w u.v vs) (_hf:∀ p∈vs,Fine p.2) (hl:vs.length=1):jb8 n A u vs w 7:=by
 obtain ⟨⟨v0,x⟩,rfl⟩:=jch hl;exact jko n A u v0 x w hop hn.ok hv 
theorem jjh (hop:n.op=⟨#[67,111,110,99,97,116]⟩) (hn:NodeAll w n ins A) (hv:ValsIn w u.v vs) (hf:∀ p∈vs,Fine p.2) (hlo:1≤vs.length) (hhi:vs.length≤20):jb8 n A u vs w 9:=by
 match vs,hlo with
 | p0::rs,_=>exact jkp n A u p0 rs w hop hn.ok hv (by simp at hhi;omega) hf
theorem jji (hop:n.op=⟨#[71,97,116,104,101,114]⟩) (hn:NodeAll w n ins A) (hv:ValsIn w u.v vs) (ht:∀ s∈jaD vs,jao s=true) (hl:vs.length=2):jcV n A u vs w 4:=by
 exact jkj n A u vs w hop hn.ok hv hl (by omega) ht
theorem jjj (hop:n.op=⟨#[71,97,116,104,101,114]⟩) (hn:NodeAll w n ins A) (hv:ValsIn w u.v vs) (hf:∀ p∈vs,Fine p.2) (hl:vs.length=2):jb8 n A u vs w 11:=by
 obtain ⟨⟨v0,x⟩,⟨v1,y⟩,rfl⟩:=jku hl;exact jkr n A u v0 v1 x y w hop hn.ok hv (hf (v0,x) (by simp)) (hf (v1,y) (by simp))
theorem jic (hop:n.op=⟨#[83,111,102,116,109,97,120]⟩) (hn:NodeAll w n ins A) (hv:ValsIn w u.v vs) (hf:∀ p∈vs,Fine p.2) (hl:vs.length=1):jb8 n A u vs w 4:=by
 obtain ⟨⟨v0,x⟩,rfl⟩:=jch hl;exact jja n A u v0 x w hop hn.ok hv (hf (v0,x) (by simp))
theorem jmB (hop:n.op=⟨#[71,101,109,109]⟩) (hn:NodeAll w n ins A) (hv:ValsIn w u.v vs) (_hf:∀ p∈vs,Fine p.2) (hlo:2≤vs.length) (hhi:vs.length≤3):jb8 n A u vs w 17:=by
 match vs,hlo with
 | p0::p1::rest,_ =>
  have e:(((p0::p1::rest).map (·.2)).drop 2).head?=rest.head?.map (·.2):=by cases rest <;> rfl
  unfold jb8 jfn jdM;simp only [e];exact joV n A u p0 p1 rest w hop hn.ok hv (by simp at hhi;omega)
theorem jmC (hop:n.op=⟨#[67,111,110,118]⟩) (hn:NodeAll w n ins A) (hv:ValsIn w u.v vs) (hf:∀ p∈vs,Fine p.2) (hlo:2≤vs.length) (hhi:vs.length≤3):jb8 n A u vs w 18:=by
 match vs,hlo with
 | p0::p1::rest,_ =>
  have e:(((p0::p1::rest).map (·.2)).drop 2).head?=rest.head?.map (·.2):=by cases rest <;> rfl
  unfold jb8 jfn jdM;simp only [e];exact jo3 n A u p0 p1 rest w hop hn.ok hv (by simp at hhi;omega) hf
theorem jdh (hop:n.op=⟨#[71,108,111,98,97,108,65,118,101,114,97,103,101,80,111,111,108]⟩) (hn:NodeAll w n ins A) (hv:ValsIn w u.v vs) (_hf:∀ p∈vs,Fine p.2) (hl:vs.length=1):jb8 n A u vs w 20:=by
 obtain ⟨⟨v0,x⟩,rfl⟩:=jch hl;exact jdu n A u v0 x w hop hn.ok hv 
theorem jc1 (hop:n.op=⟨#[66,97,116,99,104,78,111,114,109,97,108,105,122,97,116,105,111,110]⟩) (hn:NodeAll w n ins A) (hv:ValsIn w u.v vs) (_hf:∀ p∈vs,Fine p.2) (hl:vs.length=5):jb8 n A u vs w 21:=by
 match vs,hl with
 | p0::p1::rest,hl=>exact jdf n A u p0 p1 rest w hop hn.ok hv (by simp at hl;omega)
theorem jgF (hop:n.op=⟨#[67,111,110,115,116,97,110,116]⟩) (hn:NodeAll w n ins A) (_hv:ValsIn w u.v vs) (_ht:∀ s∈jaD vs,jao s=true) (_hl:vs.length=0):jcV n A u vs w 0:=by
 exact jh8 n A u w hop hn.ok
theorem jgG (hop:n.op=⟨#[67,111,110,115,116,97,110,116]⟩) (hn:NodeAll w n ins A) (_hv:ValsIn w u.v vs) (_hf:∀ p∈vs,Fine p.2) (_hl:vs.length=0):jb8 n A u vs w 0:=by
 rcases jdU (P:=isA ⟨#[118,97,108,117,101]⟩ 4) hn.node.has with ⟨e1,e2⟩ | ⟨a,c,e1,e2,e3⟩
 ·have eD:juP A=[]:=by unfold juP;rw [e2]
  have eV:jfv A=jcM:=by unfold jfv;rw [e1];rfl
  unfold jb8 jfn;simp only [eD];exact jeP n A u w hop hn.ok [] (by rw [eV];exact jo4 w)
 ·have eD:juP A=c.d:=by unfold juP;rw [e2]
  have eV:jfv A=a:=by unfold jfv;rw [e1];rfl
  unfold jb8 jfn;simp only [eD];exact jeP n A u w hop hn.ok c.d (by rw [eV];exact e3.d)
end
theorem jev {op:ByteArray} {ins:List ByteArray} {out:ByteArray} {xs:List Atr} {cs:List Cont} (h:jbJ (jcN op) op ins out xs cs=0):∃ r∈jeo,r.1=op.toList∧r.2.1≤(ins.length:Int)∧(ins.length:Int)≤r.2.2.1:=by
 have h1:jbZ (jcN op) ins out xs=0:=by
  by_cases e:jbZ (jcN op) ins out xs=0
  ·exact e
  ·rw [jb1 rfl e] at h;exact absurd h e
 unfold jcN at h1
 cases hf:jeo.find? (fun r=>r.1==op.toList) with
 | none=>rw [hf] at h1;simp [jbZ] at h1
 | some r =>
  rw [hf] at h1;obtain ⟨l,lo,hi,rs⟩:=r;simp only [Option.map_some,jbZ] at h1;have hm:=List.mem_of_find?_eq_some hf;have he:=List.find?_some hf;refine ⟨_,hm,by simpa using he,?_,?_⟩
  ·by_cases e:(ins.length:Int)<lo
   ·rw [if_pos e] at h1;simp at h1
   ·simp only;omega
  ·by_cases e:(ins.length:Int)<lo
   ·rw [if_pos e] at h1;simp at h1
   ·rw [if_neg e] at h1
    by_cases e2:hi<(ins.length:Int)
    ·rw [if_pos e2] at h1;simp at h1
    ·simp only;omega
theorem jro (t:Int):chk t 0=jao t:=by
 unfold chk jao
 by_cases h1:t=1
 ·subst h1;decide
 ·by_cases h6:t=6
  ·subst h6;decide
  ·by_cases h7:t=7
   ·subst h7;decide
   ·by_cases h9:t=9
    ·subst h9;decide
    ·simp [h1,h6,h7,h9]
theorem jmD {A:At} {op:ByteArray} {ins:List ByteArray} {out:ByteArray} {w:World} {n:Nod} (hn:NodeIn w n ins A.xs A.cs) (h:jbJ (jcN op) op ins out A.xs A.cs=0) (ho:op.toList=[67,111,110,115,116,97,110,116]):jao (jfv A).ty=true:=by
 have h1:jbZ (jcN op) ins out A.xs=0:=by
  by_cases e:jbZ (jcN op) ins out A.xs=0
  ·exact e
  ·rw [jb1 rfl e] at h;exact absurd h e
 unfold jbJ at h;rw [if_neg (by simp [h1]),if_pos (by simp [ho])] at h
 have key:∀ ty d t,pbE ty d t=0→jao ty=true:=by
  intro ty d t hp;unfold pbE at hp
  by_cases e:chk ty 0=false
  ·rw [if_pos e] at hp;simp at hp
  ·have e':chk ty 0=true:=by simpa using e
   rw [← jro];exact e'
 rcases jdU (P:=isA ⟨#[118,97,108,117,101]⟩ 4) hn.has with ⟨e1,e2⟩ | ⟨a,c,e1,e2,e3⟩
 ·have eV:jfv A=jcM:=by unfold jfv;rw [e1];rfl
  unfold jgO at h;rw [e2] at h;exact absurd (key _ _ _ h) (by decide)
 ·have eV:jfv A=a:=by unfold jfv;rw [e1];rfl
  unfold jgO at h;rw [e2] at h;rw [eV];exact key _ _ _ h
def Each (r:List UInt8×Int×Int×List Ra):Prop:=∀ (n:Nod) (ins:List ByteArray) (A:At) (u:Sl) (vs:List (Val×List Int)) (w:World),n.op.toList=r.1→NodeAll w n ins A→ValsIn w u.v vs→(∀ s∈jaD vs,jao s=true)→(∀ p∈vs,Fine p.2)→r.2.1≤(vs.length:Int)→(vs.length:Int)≤r.2.2.1→jcV n A u vs w (grp n.op).1∧jb8 n A u vs w (grp n.op).2∧((grp n.op).1=0→n.op.toList=[67,111,110,115,116,97,110,116])∧((grp n.op).1≠0→(grp n.op).1≠1→0<vs.length)∧((grp n.op).1=2→1<vs.length)
theorem jaC {l : List UInt8} {lo hi : Int} {ra : List Ra} (t d : Nat) (hg : ((grps.find? (fun r => r.1 == l)).map (·.2)).getD (99, 99) = (t, d)) (hc : t = 0 → l = [67, 111, 110, 115, 116, 97, 110, 116]) (hp : t ≠ 0 → t ≠ 1 → 0 < lo) (hw : t = 2 → 1 < lo)
    (HT:∀ (n:Nod) (ins:List ByteArray) (A:At) (u:Sl) (vs:List (Val×List Int)) (w:World),n.op=⟨l.toArray⟩→NodeAll w n ins A→ValsIn w u.v vs→(∀ s∈jaD vs,jao s=true)→lo≤(vs.length:Int)→(vs.length:Int)≤hi→jcV n A u vs w t)
    (HD:∀ (n:Nod) (ins:List ByteArray) (A:At) (u:Sl) (vs:List (Val×List Int)) (w:World),n.op=⟨l.toArray⟩→NodeAll w n ins A→ValsIn w u.v vs→(∀ p∈vs,Fine p.2)→lo≤(vs.length:Int)→(vs.length:Int)≤hi→jb8 n A u vs w d):Each (l,lo,hi,ra):=by
     intro n ins A u vs w ho hn hv ht hf h1 h2;have hop:n.op=⟨l.toArray⟩:=jmv ho;have hgg:grp n.op=(t,d):=by unfold grp;rw [ho];exact hg
     rw [hgg];simp only at h1 h2 ho ⊢;exact ⟨HT n ins A u vs w hop hn hv ht h1 h2,HD n ins A u vs w hop hn hv hf h1 h2,fun h=>ho.trans (hc h),fun h h'=>by have:=hp h h';omega,fun h=>by have:=hw h;omega⟩
theorem jrp:∀ r∈jeo,Each r:=by
 unfold jeo;simp only [List.forall_mem_cons]
 exact ⟨jaC 10 1 rfl (by decide) (by decide) (by decide) (fun n ins A u vs w hop hn hv ht h1 h2=>jei (by rw [hop];exact List.mem_of_getElem? (i:=0) rfl) hn hv ht (by omega) (by omega)) (fun n ins A u vs w hop hn hv hf h1 h2=>jmP (by rw [hop];exact List.mem_of_getElem? (i:=0) rfl) hn hv hf (by omega)),
  jaC 10 1 rfl (by decide) (by decide) (by decide) (fun n ins A u vs w hop hn hv ht h1 h2=>jei (by rw [hop];exact List.mem_of_getElem? (i:=1) rfl) hn hv ht (by omega) (by omega)) (fun n ins A u vs w hop hn hv hf h1 h2=>jmP (by rw [hop];exact List.mem_of_getElem? (i:=1) rfl) hn hv hf (by omega)),
  jaC 10 1 rfl (by decide) (by decide) (by decide) (fun n ins A u vs w hop hn hv ht h1 h2=>jei (by rw [hop];exact List.mem_of_getElem? (i:=2) rfl) hn hv ht (by omega) (by omega)) (fun n ins A u vs w hop hn hv hf h1 h2=>jmP (by rw [hop];exact List.mem_of_getElem? (i:=2) rfl) hn hv hf (by omega)),
  jaC 10 1 rfl (by decide) (by decide) (by decide) (fun n ins A u vs w hop hn hv ht h1 h2=>jei (by rw [hop];exact List.mem_of_getElem? (i:=3) rfl) hn hv ht (by omega) (by omega)) (fun n ins A u vs w hop hn hv hf h1 h2=>jmP (by rw [hop];exact List.mem_of_getElem? (i:=3) rfl) hn hv hf (by omega)),
  jaC 10 1 rfl (by decide) (by decide) (by decide) (fun n ins A u vs w hop hn hv ht h1 h2=>jei (by rw [hop];exact List.mem_of_getElem? (i:=4) rfl) hn hv ht (by omega) (by omega)) (fun n ins A u vs w hop hn hv hf h1 h2=>jmP (by rw [hop];exact List.mem_of_getElem? (i:=4) rfl) hn hv hf (by omega)),
  jaC 10 1 rfl (by decide) (by decide) (by decide) (fun n ins A u vs w hop hn hv ht h1 h2=>jei (by rw [hop];exact List.mem_of_getElem? (i:=5) rfl) hn hv ht (by omega) (by omega)) (fun n ins A u vs w hop hn hv hf h1 h2=>jmP (by rw [hop];exact List.mem_of_getElem? (i:=5) rfl) hn hv hf (by omega)),
  jaC 10 1 rfl (by decide) (by decide) (by decide) (fun n ins A u vs w hop hn hv ht h1 h2=>jei (by rw [hop];exact List.mem_of_getElem? (i:=6) rfl) hn hv ht (by omega) (by omega)) (fun n ins A u vs w hop hn hv hf h1 h2=>jmP (by rw [hop];exact List.mem_of_getElem? (i:=6) rfl) hn hv hf (by omega)),
  jaC 10 1 rfl (by decide) (by decide) (by decide) (fun n ins A u vs w hop hn hv ht h1 h2=>jei (by rw [hop];exact List.mem_of_getElem? (i:=7) rfl) hn hv ht (by omega) (by omega)) (fun n ins A u vs w hop hn hv hf h1 h2=>jmP (by rw [hop];exact List.mem_of_getElem? (i:=7) rfl) hn hv hf (by omega)),
  jaC 10 1 rfl (by decide) (by decide) (by decide) (fun n ins A u vs w hop hn hv ht h1 h2=>jei (by rw [hop];exact List.mem_of_getElem? (i:=8) rfl) hn hv ht (by omega) (by omega)) (fun n ins A u vs w hop hn hv hf h1 h2=>jmP (by rw [hop];exact List.mem_of_getElem? (i:=8) rfl) hn hv hf (by omega)),
  jaC 10 1 rfl (by decide) (by decide) (by decide) (fun n ins A u vs w hop hn hv ht h1 h2=>jei (by rw [hop];exact List.mem_of_getElem? (i:=9) rfl) hn hv ht (by omega) (by omega)) (fun n ins A u vs w hop hn hv hf h1 h2=>jmP (by rw [hop];exact List.mem_of_getElem? (i:=9) rfl) hn hv hf (by omega)),
  jaC 9 2 rfl (by decide) (by decide) (by decide) (fun n ins A u vs w hop hn hv ht h1 h2=>jeR (by rw [hop];exact List.mem_of_getElem? (i:=0) rfl) hn hv ht (by omega) (by omega)) (fun n ins A u vs w hop hn hv hf h1 h2=>jdp (by rw [hop];exact List.mem_of_getElem? (i:=0) rfl) hn hv hf (by omega)),
  jaC 9 2 rfl (by decide) (by decide) (by decide) (fun n ins A u vs w hop hn hv ht h1 h2=>jeR (by rw [hop];exact List.mem_of_getElem? (i:=1) rfl) hn hv ht (by omega) (by omega)) (fun n ins A u vs w hop hn hv hf h1 h2=>jdp (by rw [hop];exact List.mem_of_getElem? (i:=1) rfl) hn hv hf (by omega)),
  jaC 9 2 rfl (by decide) (by decide) (by decide) (fun n ins A u vs w hop hn hv ht h1 h2=>jeR (by rw [hop];exact List.mem_of_getElem? (i:=2) rfl) hn hv ht (by omega) (by omega)) (fun n ins A u vs w hop hn hv hf h1 h2=>jdp (by rw [hop];exact List.mem_of_getElem? (i:=2) rfl) hn hv hf (by omega)),
  jaC 9 2 rfl (by decide) (by decide) (by decide) (fun n ins A u vs w hop hn hv ht h1 h2=>jeR (by rw [hop];exact List.mem_of_getElem? (i:=3) rfl) hn hv ht (by omega) (by omega)) (fun n ins A u vs w hop hn hv hf h1 h2=>jdp (by rw [hop];exact List.mem_of_getElem? (i:=3) rfl) hn hv hf (by omega)),
  jaC 9 2 rfl (by decide) (by decide) (by decide) (fun n ins A u vs w hop hn hv ht h1 h2=>jeR (by rw [hop];exact List.mem_of_getElem? (i:=4) rfl) hn hv ht (by omega) (by omega)) (fun n ins A u vs w hop hn hv hf h1 h2=>jdp (by rw [hop];exact List.mem_of_getElem? (i:=4) rfl) hn hv hf (by omega)),
  jaC 9 2 rfl (by decide) (by decide) (by decide) (fun n ins A u vs w hop hn hv ht h1 h2=>jeR (by rw [hop];exact List.mem_of_getElem? (i:=5) rfl) hn hv ht (by omega) (by omega)) (fun n ins A u vs w hop hn hv hf h1 h2=>jdp (by rw [hop];exact List.mem_of_getElem? (i:=5) rfl) hn hv hf (by omega)),
  jaC 9 2 rfl (by decide) (by decide) (by decide) (fun n ins A u vs w hop hn hv ht h1 h2=>jeR (by rw [hop];exact List.mem_of_getElem? (i:=6) rfl) hn hv ht (by omega) (by omega)) (fun n ins A u vs w hop hn hv hf h1 h2=>jdp (by rw [hop];exact List.mem_of_getElem? (i:=6) rfl) hn hv hf (by omega)),
  jaC 9 2 rfl (by decide) (by decide) (by decide) (fun n ins A u vs w hop hn hv ht h1 h2=>jeR (by rw [hop];exact List.mem_of_getElem? (i:=7) rfl) hn hv ht (by omega) (by omega)) (fun n ins A u vs w hop hn hv hf h1 h2=>jdp (by rw [hop];exact List.mem_of_getElem? (i:=7) rfl) hn hv hf (by omega)),
  jaC 9 2 rfl (by decide) (by decide) (by decide) (fun n ins A u vs w hop hn hv ht h1 h2=>jeR (by rw [hop];exact List.mem_of_getElem? (i:=8) rfl) hn hv ht (by omega) (by omega)) (fun n ins A u vs w hop hn hv hf h1 h2=>jdp (by rw [hop];exact List.mem_of_getElem? (i:=8) rfl) hn hv hf (by omega)),
  jaC 8 2 rfl (by decide) (by decide) (by decide) (fun n ins A u vs w hop hn hv ht h1 h2=>jkv hop hn hv ht (by omega)) (fun n ins A u vs w hop hn hv hf h1 h2=>jdp (by rw [hop];exact List.mem_of_getElem? (i:=9) rfl) hn hv hf (by omega)),
  jaC 8 2 rfl (by decide) (by decide) (by decide) (fun n ins A u vs w hop hn hv ht h1 h2=>jmz hop hn hv ht (by omega)) (fun n ins A u vs w hop hn hv hf h1 h2=>jdp (by rw [hop];exact List.mem_of_getElem? (i:=10) rfl) hn hv hf (by omega)),
  jaC 8 2 rfl (by decide) (by decide) (by decide) (fun n ins A u vs w hop hn hv ht h1 h2=>jib hop hn hv ht (by omega)) (fun n ins A u vs w hop hn hv hf h1 h2=>jdp (by rw [hop];exact List.mem_of_getElem? (i:=11) rfl) hn hv hf (by omega)),
  jaC 7 16 rfl (by decide) (by decide) (by decide) (fun n ins A u vs w hop hn hv ht h1 h2=>jb5 (by rw [hop];exact List.mem_of_getElem? (i:=4) rfl) hn hv ht (by omega) (by omega)) (fun n ins A u vs w hop hn hv hf h1 h2=>jmw (by rw [hop];exact List.mem_of_getElem? (i:=0) rfl) hn hv hf (by omega)),
  jaC 2 3 rfl (by decide) (by decide) (by decide) (fun n ins A u vs w hop hn hv ht h1 h2=>jkw hop hn hv ht (by omega)) (fun n ins A u vs w hop hn hv hf h1 h2=>jkx hop hn hv hf (by omega)),
  jaC 7 1 rfl (by decide) (by decide) (by decide) (fun n ins A u vs w hop hn hv ht h1 h2=>jb5 (by rw [hop];exact List.mem_of_getElem? (i:=0) rfl) hn hv ht (by omega) (by omega)) (fun n ins A u vs w hop hn hv hf h1 h2=>jmP (by rw [hop];exact List.mem_of_getElem? (i:=10) rfl) hn hv hf (by omega)),
  jaC 1 1 rfl (by decide) (by decide) (by decide) (fun n ins A u vs w hop hn hv ht h1 h2=>jmA hop hn hv ht (by omega)) (fun n ins A u vs w hop hn hv hf h1 h2=>jmP (by rw [hop];exact List.mem_of_getElem? (i:=11) rfl) hn hv hf (by omega)),
  jaC 5 5 rfl (by decide) (by decide) (by decide) (fun n ins A u vs w hop hn hv ht h1 h2=>jf8 hop hn hv ht (by omega)) (fun n ins A u vs w hop hn hv hf h1 h2=>jd5 (by rw [hop];exact List.mem_of_getElem? (i:=0) rfl) hn hv hf (by omega)),
  jaC 5 5 rfl (by decide) (by decide) (by decide) (fun n ins A u vs w hop hn hv ht h1 h2=>jf9 hop hn hv ht (by omega)) (fun n ins A u vs w hop hn hv hf h1 h2=>jd5 (by rw [hop];exact List.mem_of_getElem? (i:=1) rfl) hn hv hf (by omega)),
  jaC 7 5 rfl (by decide) (by decide) (by decide) (fun n ins A u vs w hop hn hv ht h1 h2=>jb5 (by rw [hop];exact List.mem_of_getElem? (i:=2) rfl) hn hv ht (by omega) (by omega)) (fun n ins A u vs w hop hn hv hf h1 h2=>jd5 (by rw [hop];exact List.mem_of_getElem? (i:=2) rfl) hn hv hf (by omega)),
  jaC 6 5 rfl (by decide) (by decide) (by decide) (fun n ins A u vs w hop hn hv ht h1 h2=>jjf hop hn hv ht (by omega)) (fun n ins A u vs w hop hn hv hf h1 h2=>jd5 (by rw [hop];exact List.mem_of_getElem? (i:=3) rfl) hn hv hf (by omega)),
  jaC 3 6 rfl (by decide) (by decide) (by decide) (fun n ins A u vs w hop hn hv ht h1 h2=>jdN (by rw [hop];exact List.mem_of_getElem? (i:=1) rfl) hn hv ht (by omega) (by omega)) (fun n ins A u vs w hop hn hv hf h1 h2=>jmx (by rw [hop];exact List.mem_of_getElem? (i:=0) rfl) hn hv hf (by omega)),
  jaC 3 7 rfl (by decide) (by decide) (by decide) (fun n ins A u vs w hop hn hv ht h1 h2=>jdN (by rw [hop];exact List.mem_of_getElem? (i:=2) rfl) hn hv ht (by omega) (by omega)) (fun n ins A u vs w hop hn hv hf h1 h2=>jjg hop hn hv hf (by omega)),
  jaC 3 8 rfl (by decide) (by decide) (by decide) (fun n ins A u vs w hop hn hv ht h1 h2=>jdN (by rw [hop];exact List.mem_of_getElem? (i:=3) rfl) hn hv ht (by omega) (by omega)) (fun n ins A u vs w hop hn hv hf h1 h2=>jia (by rw [hop];exact List.mem_of_getElem? (i:=0) rfl) hn hv hf (by omega)),
  jaC 3 9 rfl (by decide) (by decide) (by decide) (fun n ins A u vs w hop hn hv ht h1 h2=>jdN (by rw [hop];exact List.mem_of_getElem? (i:=0) rfl) hn hv ht (by omega) (by omega)) (fun n ins A u vs w hop hn hv hf h1 h2=>jjh hop hn hv hf (by omega) (by omega)),
  jaC 3 10 rfl (by decide) (by decide) (by decide) (fun n ins A u vs w hop hn hv ht h1 h2=>jdN (by rw [hop];exact List.mem_of_getElem? (i:=4) rfl) hn hv ht (by omega) (by omega)) (fun n ins A u vs w hop hn hv hf h1 h2=>jo5 (by rw [hop];exact List.mem_of_getElem? (i:=0) rfl) hn hv hf (by omega)),
  jaC 4 11 rfl (by decide) (by decide) (by decide) (fun n ins A u vs w hop hn hv ht h1 h2=>jji hop hn hv ht (by omega)) (fun n ins A u vs w hop hn hv hf h1 h2=>jjj hop hn hv hf (by omega)),
  jaC 7 12 rfl (by decide) (by decide) (by decide) (fun n ins A u vs w hop hn hv ht h1 h2=>jb5 (by rw [hop];exact List.mem_of_getElem? (i:=3) rfl) hn hv ht (by omega) (by omega)) (fun n ins A u vs w hop hn hv hf h1 h2=>juQ (by rw [hop];exact List.mem_of_getElem? (i:=0) rfl) hn hv hf (by omega)),
  jaC 3 13 rfl (by decide) (by decide) (by decide) (fun n ins A u vs w hop hn hv ht h1 h2=>jdN (by rw [hop];exact List.mem_of_getElem? (i:=5) rfl) hn hv ht (by omega) (by omega)) (fun n ins A u vs w hop hn hv hf h1 h2=>jmy (by rw [hop];exact List.mem_of_getElem? (i:=0) rfl) hn hv hf (by omega)),
  jaC 3 14 rfl (by decide) (by decide) (by decide) (fun n ins A u vs w hop hn hv ht h1 h2=>jdN (by rw [hop];exact List.mem_of_getElem? (i:=6) rfl) hn hv ht (by omega) (by omega)) (fun n ins A u vs w hop hn hv hf h1 h2=>jje (by rw [hop];exact List.mem_of_getElem? (i:=0) rfl) hn hv hf (by omega)),
  jaC 3 15 rfl (by decide) (by decide) (by decide) (fun n ins A u vs w hop hn hv ht h1 h2=>jdN (by rw [hop];exact List.mem_of_getElem? (i:=7) rfl) hn hv ht (by omega) (by omega)) (fun n ins A u vs w hop hn hv hf h1 h2=>jjc (by rw [hop];exact List.mem_of_getElem? (i:=0) rfl) hn hv hf (by omega)),
  jaC 7 4 rfl (by decide) (by decide) (by decide) (fun n ins A u vs w hop hn hv ht h1 h2=>jb5 (by rw [hop];exact List.mem_of_getElem? (i:=1) rfl) hn hv ht (by omega) (by omega)) (fun n ins A u vs w hop hn hv hf h1 h2=>jic hop hn hv hf (by omega)),
  jaC 7 17 rfl (by decide) (by decide) (by decide) (fun n ins A u vs w hop hn hv ht h1 h2=>jb5 (by rw [hop];exact List.mem_of_getElem? (i:=5) rfl) hn hv ht (by omega) (by omega)) (fun n ins A u vs w hop hn hv hf h1 h2=>jmB hop hn hv hf (by omega) (by omega)),
  jaC 7 18 rfl (by decide) (by decide) (by decide) (fun n ins A u vs w hop hn hv ht h1 h2=>jb5 (by rw [hop];exact List.mem_of_getElem? (i:=6) rfl) hn hv ht (by omega) (by omega)) (fun n ins A u vs w hop hn hv hf h1 h2=>jmC hop hn hv hf (by omega) (by omega)),
  jaC 7 19 rfl (by decide) (by decide) (by decide) (fun n ins A u vs w hop hn hv ht h1 h2=>jb5 (by rw [hop];exact List.mem_of_getElem? (i:=7) rfl) hn hv ht (by omega) (by omega)) (fun n ins A u vs w hop hn hv hf h1 h2=>jjd (by rw [hop];exact List.mem_of_getElem? (i:=0) rfl) hn hv hf (by omega)),
  jaC 7 19 rfl (by decide) (by decide) (by decide) (fun n ins A u vs w hop hn hv ht h1 h2=>jb5 (by rw [hop];exact List.mem_of_getElem? (i:=8) rfl) hn hv ht (by omega) (by omega)) (fun n ins A u vs w hop hn hv hf h1 h2=>jjd (by rw [hop];exact List.mem_of_getElem? (i:=1) rfl) hn hv hf (by omega)),
  jaC 7 20 rfl (by decide) (by decide) (by decide) (fun n ins A u vs w hop hn hv ht h1 h2=>jb5 (by rw [hop];exact List.mem_of_getElem? (i:=9) rfl) hn hv ht (by omega) (by omega)) (fun n ins A u vs w hop hn hv hf h1 h2=>jdh hop hn hv hf (by omega)),
  jaC 7 21 rfl (by decide) (by decide) (by decide) (fun n ins A u vs w hop hn hv ht h1 h2=>jb5 (by rw [hop];exact List.mem_of_getElem? (i:=10) rfl) hn hv ht (by omega) (by omega)) (fun n ins A u vs w hop hn hv hf h1 h2=>jc1 hop hn hv hf (by omega)),
  jaC 0 0 rfl (by decide) (by decide) (by decide) (fun n ins A u vs w hop hn hv ht h1 h2=>jgF hop hn hv ht (by omega)) (fun n ins A u vs w hop hn hv hf h1 h2=>jgG hop hn hv hf (by omega)),fun r hr=>absurd hr (List.not_mem_nil)⟩
def jid (n:Nod) (ins:List ByteArray) (A:At) (vs:List (Val×List Int)):R (Int×List Int) :=
 jbE (jbJ (jcN n.op) n.op ins n.out A.xs A.cs) (decide (vs.length=ins.length)) vs (jdg A (jaD vs) (grp n.op).1) (jfn A (jdM vs) (grp n.op).2) (jen (A.xs.find? (isA ⟨#[116,104,101,110]⟩ 3)))
theorem jo6 {n:Nod} {ins:List ByteArray} {A:At} {u:Sl} {vs:List (Val×List Int)} {w:World} (hn:NodeAll w n ins A) (hv:ValsIn w u.v vs) (hc:jbJ (jcN n.op) n.op ins n.out A.xs A.cs=0) (hl:vs.length=ins.length) (hi:jeL vs=.ok ()):Calls Tryz.prog 74 #[jaz n,.slice u.a u.n u.c] w (jaJ w (jdg A (jaD vs) (grp n.op).1) fun t v _=>v=.int .i64 t∧jao t=true)∧Calls Tryz.prog 75 #[jaz n,.slice u.a u.n u.c] w (jaJ w (jfn A (jdM vs) (grp n.op).2) jbd):=by
 obtain ⟨r,hr,h1,h2,h3⟩:=jev hc;have hall:=jlm hi
 have ht:∀ s∈jaD vs,jao s=true:=by
  intro s hs;obtain ⟨p,hp,rfl⟩:=List.mem_map.1 hs;exact (hall p hp).1
 rw [← hl] at h2 h3;obtain ⟨a1,a2,a3,a4,a5⟩:=jrp r hr n ins A u vs w h1.symm hn hv ht (fun p hp=>(hall p hp).2) h2 h3;refine ⟨a1.mono fun e w' he=>jhc he fun t v e1 e2=>⟨e2,?_⟩,a2⟩;have hlen:(jaD vs).length=vs.length:=List.length_map ..;exact jrn e1 (fun h0=>jmD hn.node hc (a3 h0)) ht (fun x y=>by rw [hlen];exact a4 x y) (fun x=>by rw [hlen];exact a5 x)
theorem jo7 (n:Nod) (ins:List ByteArray) (A:At) (u:Sl) (vs:List (Val×List Int)) (w:World) (hl:Laid w) (hn:NodeAll w n ins A) (hv:ValsIn w u.v vs):Calls Tryz.prog 27 #[jaz n,.slice u.a u.n u.c] w (jsk n.out w (jid n ins A vs)):=by
 refine jtC n u _ w fun wx hx=>?_;have ho:=hn.out;refine (jkh n A ins u vs wx (hl.more hx) (hn.more hx).node (hv.more hx) (by omega) (jdg A (jaD vs) (grp n.op).1) (jfn A (jdM vs) (grp n.op).2) (fun hc hll hi wy hy=>(jo6 (hn.more (jaa hx hy)) (hv.more (jaa hx hy)) hc hll hi).1) (fun hc hll hi wy hy=>(jo6 (hn.more (jaa hx hy)) (hv.more (jaa hx hy)) hc hll hi).2)).mono fun e w' he=>?_;exact jhc he fun r v e1 e2=>e2
end Go.Proofs.YteigfipgmghgmaaGreatDoor
namespace Go.Proofs.YteigfipgmghgmaaGreatDoor
def NZ {α:Type} (r:R α):Prop:=∀ c,r=.error c→c≠0
theorem NZ.ok {α:Type} {a:α} : NZ (.ok a:R α):=fun c h=>by cases h
theorem NZ.err {α:Type} {c:Int} (h:c≠0):NZ (.error c:R α):=fun d e=>by cases e;exact h
theorem NZ.bind {α β:Type} {r:R α} {f:α→R β} (h:NZ r) (hf:∀ a,r=.ok a→NZ (f a)):NZ (r.bind f):=by
 cases r with
 | error c=>exact fun d e=>h d (by cases e;rfl)
 | ok a=>exact hf a rfl
theorem NZ.must {b:Bool} : NZ (jal b):=by
 unfold jal
 split
 ·exact .ok
 ·exact .err (by decide)
theorem NZ.stop {e:Int} : NZ (jhB e):=by
 unfold jhB
 split
 ·exact .ok
 ·exact .err (by assumption)
theorem NZ.typ {t:Int} : NZ (jiJ t):=by
 unfold jiJ
 split
 ·exact .ok
 ·exact .err (by decide)
theorem NZ.count {zs:List Int} : NZ (jaX zs):=by
 unfold jaX
 split
 ·exact .ok
 ·exact .err (by assumption)
theorem NZ.spread {a b:List Int} : NZ (jaE a b):=by
 unfold jaE
 split
 ·exact .ok
 ·exact .err (by assumption)
theorem NZ.axis {a:Int} {r:Nat} : NZ (jd9 a r):=by
 unfold jd9
 split
 ·exact .ok
 ·exact .err (by decide)
theorem NZ.axes {l:List Int} {r:Nat} : NZ (jb7 l r):=by
 unfold jb7
 split
 ·exact .ok
 ·exact .err (by decide)
theorem NZ.isOn {x:Int} : NZ (jgx x):=by
 unfold jgx
 split
 ·exact .ok
 ·split
  ·exact .ok
  ·exact .err (by decide)
theorem NZ.same {l:List Int} : NZ (jaO l):=by
 cases l with
 | nil=>exact .ok
 | cons t l =>
  simp only [jaO]
  split
  ·exact .ok
  ·exact .err (by decide)
theorem NZ.shape {x:List Int} {count:Int} : ∀ {l:List Int} {i:Nat} {left:Option Nat} {known:Int} {dims:List Int},NZ (jbK x count l i left known dims)
 | [],_,_,_,_=>.ok
 | d::l,i,left,known,dims=>by
  unfold jbK;refine NZ.bind ?_ fun a _=>NZ.bind .must fun _ _=>NZ.bind .must fun _ _=>NZ.shape
  split
  ·split
   ·exact .ok
   ·exact .err (by decide)
  ·split
   ·split
    ·exact .ok
    ·exact .err (by decide)
   ·exact .ok
theorem NZ.map {α β:Type} {r:R α} {f:α→β} (h:NZ r):NZ (r.map f):=by
 cases r with
 | error c=>exact fun d e=>h d (by cases e;rfl)
 | ok a=>exact .ok
theorem NZ.perm {x:List Int} : ∀ {l:List Int},NZ (jer x l)
 | []=>.ok
 | p::l=>by
  unfold jer
  split
  ·exact NZ.map NZ.perm
  ·exact .err (by decide)
theorem NZ.join {a:Nat} : ∀ {l:List (List Int)} {d:List Int},NZ (je0 a l d)
 | [],_=>.ok
 | _::_,_=>NZ.bind .must fun _ _=>NZ.bind .must fun _ _=>NZ.join
theorem NZ.slice {x:List Int} : ∀ {al ss es d:List Int},NZ (jcb x al ss es d)
 | [],_,_,_=>by unfold jcb;exact .ok
 | _::_,[],_,_=>by unfold jcb;exact .ok
 | _::_,_::_,[],_=>by unfold jcb;exact .ok
 | _::_,_::_,_::_,_=>NZ.bind .axis fun _ _=>NZ.bind .must fun _ _=>NZ.slice
theorem NZ.pad {r:Nat} : ∀ {l:List Int} {i:Nat} {d:List Int},NZ (jqv r l i d)
 | [],_,_=>.ok
 | _::_,_,_=>NZ.bind .must fun _ _=>NZ.pad
theorem NZ.squeeze:∀ {l:List Int} {g:List Bool},NZ (jbj l g)
 | [],_=>by unfold jbj;exact .ok
 | _::_,[]=>by unfold jbj;exact .ok
 | d::l,g::gs=>by
  unfold jbj
  split
  ·split
   ·exact NZ.squeeze
   ·exact .err (by decide)
  ·exact NZ.map NZ.squeeze
theorem NZ.within {l:List Int} {m:Nat} {b:Int} : NZ (jaY l m b):=NZ.bind .must fun _ _=>NZ.bind .must fun _ _=>.ok
theorem NZ.places {A:At} {x k:List Int} {n:Nat} : NZ (jaI A x k n):=NZ.bind .within fun _ _=>NZ.bind .within fun _ _=>NZ.bind .within fun _ _=>NZ.bind .must fun _ _=>.ok
theorem NZ.product {x y:List Int} : NZ (ja6 x y):=NZ.bind .must fun _ _=>NZ.bind .must fun _ _=>NZ.bind .spread fun _ _=>.ok
theorem NZ.turned {x:List Int} {t:Int} : NZ (jbz x t):=NZ.bind .must fun _ _=>NZ.bind .isOn fun _ _=>.ok
theorem NZ.gemm {A:At} {x y:List Int} {z:Option (List Int)} : NZ (jdc A x y z):=by
 refine NZ.bind .turned fun _ _=>NZ.bind .turned fun _ _=>NZ.bind .product fun _ _=>?_
 cases z with
 | none=>exact .ok
 | some c=>exact NZ.bind .spread fun _ _=>NZ.bind .must fun _ _=>.ok
theorem NZ.conv {A:At} {x y:List Int} {z:Option (List Int)} : NZ (ja0 A x y z):=NZ.bind .must fun _ _=>NZ.bind .must fun _ _=>NZ.bind .must fun _ _=>NZ.bind .must fun _ _=>NZ.bind .places fun _ _=>NZ.bind .places fun _ _=>.ok
theorem NZ.dims {A:At} {D:List (List Int)} {g:Nat} : NZ (jfn A D g):=by
 match g with
 | 0=>exact .ok
 | 1=>exact .ok
 | 2=>exact .spread
 | 3=>exact NZ.bind .spread fun _ _=>.spread
 | 4=>exact NZ.bind .axes fun _ _=>.ok
 | 5=>exact NZ.bind .isOn fun _ _=>NZ.bind .axes fun _ _=>.ok
 | 6=>exact NZ.bind .count fun _ _=>NZ.bind .shape fun _ _=>NZ.bind .must fun _ _=>.ok
 | 7=>exact .spread
 | 8=>exact NZ.bind .must fun _ _=>NZ.bind .axes fun _ _=>.perm
 | 9=>exact NZ.bind .axis fun _ _=>.join
 | 10=>exact NZ.bind .must fun _ _=>NZ.bind .axes fun _ _=>.slice
 | 11=>exact NZ.bind .axis fun _ _=>.ok
 | 12=>exact NZ.bind .must fun _ _=>.pad
 | 13=>exact NZ.bind .axes fun _ _=>.squeeze
 | 14=>exact NZ.bind .axes fun _ _=>.ok
 | 15=>exact NZ.bind .must fun _ _=>NZ.bind .count fun _ _=>NZ.bind .count fun _ _=>.ok
 | 16=>exact .product
 | 17=>exact .gemm
 | 18=>exact .conv
 | 19=>exact NZ.bind .must fun _ _=>NZ.bind .within fun _ _=>NZ.bind .within fun _ _=>NZ.bind .must fun _ _=>NZ.bind .places fun _ _=>NZ.bind .places fun _ _=>.ok
 | 20=>exact NZ.bind .must fun _ _=>.ok
 | 21=>exact NZ.bind .must fun _ _=>NZ.bind .must fun _ _=>.ok
 | n+22=>exact .err (by decide)
theorem NZ.type {A:At} {ts:List Int} {g:Nat} : NZ (jdg A ts g):=by
 match g with
 | 0=>exact .ok
 | 1=>exact NZ.bind .typ fun _ _=>.ok
 | 2=>exact NZ.bind .must fun _ _=>.same
 | 3=>exact .same
 | 4=>exact NZ.bind .must fun _ _=>.ok
 | 5=>exact NZ.bind .must fun _ _=>.ok
 | 6=>exact NZ.bind .must fun _ _=>.ok
 | 7=>exact NZ.bind .same fun _ _=>NZ.bind .must fun _ _=>.ok
 | 8=>exact NZ.bind .same fun _ _=>NZ.bind .must fun _ _=>.ok
 | 9=>exact NZ.bind .same fun _ _=>NZ.bind .must fun _ _=>.ok
 | 10=>exact NZ.bind .same fun _ _=>NZ.bind .must fun _ _=>.ok
 | n+11=>exact .err (by decide)
theorem NZ.vin:∀ {vs:List (Val×List Int)},NZ (jeL vs)
 | []=>.ok
 | _::_=>NZ.bind .typ fun _ _=>NZ.bind .count fun _ _=>NZ.vin
theorem NZ.thens {t:Int} : ∀ {os:List ByteArray},NZ (jdt t os)
 | []=>.ok
 | _::_=>NZ.bind .must fun _ _=>NZ.thens
theorem jfw {n:Nod} {ins:List ByteArray} {A:At} {vs:List (Val×List Int)} {c:Int} (h:jid n ins A vs=.error c):c≠0 :=
 (NZ.bind .stop fun _ _=>NZ.bind .must fun _ _=>NZ.bind .vin fun _ _=>NZ.bind .type fun _ _=>NZ.bind .dims fun _ _=>NZ.bind .count fun _ _=>NZ.bind .thens fun _ _=>.ok:NZ (jid n ins A vs)) c h
structure OutOk (n:Nod) (ins:List ByteArray) (A:At) (vs:List (Val×List Int)) (r:Int×List Int):Prop where
 chk:jbJ (jcN n.op) n.op ins n.out A.xs A.cs=0
 len:vs.length=ins.length
 vin:jeL vs=.ok ()
 typ:jdg A (jaD vs) (grp n.op).1=.ok r.1
 dim:jfn A (jdM vs) (grp n.op).2=.ok r.2
 cnt:ja2 r.2=0
 thn:jdt r.1 (jen (A.xs.find? (isA ⟨#[116,104,101,110]⟩ 3)))=.ok ()
theorem jky {b:Bool} {u:Unit} (h:jal b=.ok u):b=true:=by
 unfold jal at h
 split at h
 ·assumption
 ·cases h
theorem jrq {e:Int} {u:Unit} (h:jhB e=.ok u):e=0:=by
 unfold jhB at h
 split at h
 ·assumption
 ·cases h
theorem jga {zs:List Int} {c:Int} (h:jaX zs=.ok c):ja2 zs=0:=by
 unfold jaX at h
 split at h
 ·assumption
 ·cases h
theorem jkz {n:Nod} {ins:List ByteArray} {A:At} {vs:List (Val×List Int)} {r:Int×List Int} (h:jid n ins A vs=.ok r):OutOk n ins A vs r:=by
 unfold jid jbE at h;obtain ⟨_,h1,h⟩:=jaZ h;obtain ⟨_,h2,h⟩:=jaZ h;obtain ⟨_,h3,h⟩:=jaZ h;obtain ⟨t,h4,h⟩:=jaZ h;obtain ⟨d,h5,h⟩:=jaZ h;obtain ⟨_,h6,h⟩:=jaZ h;obtain ⟨_,h7,h⟩:=jaZ h
 cases h
 exact ⟨jrq h1,of_decide_eq_true (jky h2),h3,h4,h5,jga h6,h7⟩
theorem OutOk.eq {n:Nod} {ins:List ByteArray} {A:At} {vs:List (Val×List Int)} {r:Int×List Int} (h:OutOk n ins A vs r):jid n ins A vs=.ok r:=by
 unfold jid jbE;have e1:jhB (jbJ (jcN n.op) n.op ins n.out A.xs A.cs)=.ok ():=by rw [h.chk];rfl
 have e2:jal (decide (vs.length=ins.length))=.ok ():=by rw [decide_eq_true h.len];rfl
 have e3:jaX r.2=.ok (jaA r.2):=by unfold jaX;rw [if_pos h.cnt]
 rw [e1,e2,h.vin,h.typ,h.dim];show (jaX r.2).bind _=_;rw [e3];show (jdt r.1 _).bind _=_;rw [h.thn]
 rfl
end Go.Proofs.YteigfipgmghgmaaGreatDoor
namespace Go.Proofs.YteigfipgmghgmaaGreatDoor
theorem jkA (p q:Int):jbC p q=jbC q p:=by
 have e:(p==q)=(q==p):=by
  rw [Bool.eq_iff_iff,beq_iff_eq,beq_iff_eq];exact eq_comm
 simp only [jbC,Bool.and_comm (!(p==1)),e]
theorem jjk (a b:List Int) (k:Nat):bcL a b k=bcL b a k:=by
 induction k with
 | zero=>rfl
 | succ k ih=>simp only [bcL,ih,Int.max_comm]
theorem jkB (a b:List Int) (k:Nat):jcG a b k=jcG b a k:=by
 induction k with
 | zero=>rfl
 | succ k ih=>simp only [jcG,ih,jkA]
theorem jhd (a b:List Int):jaL a b=jaL b a:=Nat.max_comm _ _
theorem jjl {a b:List Int} (ha:ja2 a=0) (hb:ja2 b=0):jaE a b=jaE b a:=by
 have e:bcE a b=bcE b a:=by
  unfold bcE;simp only [ha,hb,ne_eq,not_true_eq_false,if_false];rw [jhd a b,jkB a b,jjk a b]
 have e2:bcR a b=bcR b a:=by unfold bcR;rw [e,jjk a b,jhd a b]
 unfold jaE;rw [e,e2]
def grpL (l:List UInt8):Nat×Nat:=((grps.find? (fun r=>r.1==l)).map (·.2)).getD (99,99)
theorem jtF:∀ r∈jeo,r.2.1≤2→2≤r.2.2.1→r.1≠[77,97,116,77,117,108]→r.1≠[71,101,109,109]→r.1≠[67,111,110,118]→r.1≠[71,97,116,104,101,114]→r.1≠[67,111,110,99,97,116]→((grpL r.1).1=8∨(grpL r.1).1=9)∧(grpL r.1).2=2:=by decide +kernel
theorem jo8 {s t:Int} {a:Int} (h:jaO [s,t]=.ok a):s=t∧a=s:=by
 simp only [jaO,List.all_cons,List.all_nil,Bool.and_true] at h
 split at h
 ·rename_i e
  cases h
  exact ⟨(by simpa using e:t=s).symm,rfl⟩
 ·cases h
theorem jrr {p q:Val×List Int} (h:jeL [p,q]=.ok ()):jeL [q,p]=.ok ()∧ja2 p.2=0∧ja2 q.2=0:=by
 simp only [jeL] at h ⊢;obtain ⟨_,h1,h⟩:=jaZ h;obtain ⟨_,h2,h⟩:=jaZ h;obtain ⟨_,h3,h⟩:=jaZ h;obtain ⟨_,h4,h⟩:=jaZ h;rw [h3,h1];refine ⟨?_,jga h2,jga h4⟩;show (jaX q.2).bind _=_;rw [h4];show (jaX p.2).bind _=_;rw [h2]
 rfl
theorem OutOk.turned {n:Nod} {ins:List ByteArray} {A:At} {p q:Val×List Int} {r:Int×List Int} (h:OutOk n ins A [p,q] r) (m1:n.op.toList≠[77,97,116,77,117,108]) (m2:n.op.toList≠[71,101,109,109]) (m3:n.op.toList≠[67,111,110,118]) (m4:n.op.toList≠[71,97,116,104,101,114]) (m5:n.op.toList≠[67,111,110,99,97,116]):OutOk n ins A [q,p] r:=by
 obtain ⟨R0,hr,h1,h2,h3⟩:=jev h.chk;have hl:ins.length=2:=by have:=h.len;simp at this;omega
 rw [hl] at h2 h3;obtain ⟨g1,g2⟩:=jtF R0 hr (by simpa using h2) (by simpa using h3) (by rw [h1];exact m1) (by rw [h1];exact m2) (by rw [h1];exact m3) (by rw [h1];exact m4) (by rw [h1];exact m5);rw [h1] at g1 g2;have eg:grp n.op=grpL n.op.toList:=rfl;rw [← eg] at g1 g2;obtain ⟨v1,c1,c2⟩:=jrr h.vin;refine ⟨h.chk,by have:=h.len;simpa using this,v1,?_,?_,h.cnt,h.thn⟩
 ·have ht:=h.typ
  have e:jaO (jaD [q,p])=jaO (jaD [p,q])∨∃ c,jaO (jaD [p,q])=.error c:=by
   cases hs:jaO (jaD [p,q]) with
   | error c=>exact .inr ⟨c,rfl⟩
   | ok a =>
    obtain ⟨e1,e2⟩:=jo8 (s:=p.1.ty) (t:=q.1.ty) hs
    left
    rw [← hs];show jaO [q.1.ty,p.1.ty]=jaO [p.1.ty,q.1.ty];rw [e1]
  rcases e with e | ⟨c,e⟩
  ·rcases g1 with g | g
   ·rw [g] at ht ⊢;simp only [jdg] at ht ⊢;rw [e];exact ht
   ·rw [g] at ht ⊢;simp only [jdg] at ht ⊢;rw [e];exact ht
  ·rcases g1 with g | g
   ·rw [g] at ht;simp only [jdg] at ht;rw [e] at ht;cases ht
   ·rw [g] at ht;simp only [jdg] at ht;rw [e] at ht;cases ht
 ·have hd:=h.dim;rw [g2] at hd ⊢;show jaE q.2 p.2=_;rw [jjl c2 c1];exact hd
end Go.Proofs.YteigfipgmghgmaaGreatDoor
