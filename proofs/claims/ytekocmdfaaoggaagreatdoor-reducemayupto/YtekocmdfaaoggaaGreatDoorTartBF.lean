/- A part. -/
import Derived.Test.YtekocmdfaaoggaaGreatDoorTartAX
import Derived.Test.YtekocmdfaaoggaaGreatDoorTartAW
import Derived.Test.YtekocmdfaaoggaaGreatDoorTartAY
import Derived.Test.YtekocmdfaaoggaaGreatDoorTartBA
import Derived.Test.YtekocmdfaaoggaaGreatDoorTartBB
import Derived.Test.YtekocmdfaaoggaaGreatDoorTartBC
import Derived.Test.YtekocmdfaaoggaaGreatDoorTartBE
set_option maxRecDepth 100000
namespace Go.Proofs.YtekocmdfaaoggaaGreatDoor
open Go.RowKit
def grps:List (List UInt8×Nat×Nat):=[
 ([73,100,101,110,116,105,116,121],10,1),
 ([78,101,103],10,1),
 ([65,98,115],10,1),
 ([78,111,116],10,1),
 ([82,101,108,117],10,1),
 ([83,113,114,116],10,1),
 ([70,108,111,111,114],10,1),
 ([69,120,112],10,1),
 ([83,105,103,109,111,105,100],10,1),
 ([84,97,110,104],10,1),
 ([65,100,100],9,2),
 ([83,117,98],9,2),
 ([77,117,108],9,2),
 ([68,105,118],9,2),
 ([77,97,120],9,2),
 ([77,105,110],9,2),
 ([65,110,100],9,2),
 ([79,114],9,2),
 ([88,111,114],9,2),
 ([69,113,117,97,108],8,2),
 ([76,101,115,115],8,2),
 ([71,114,101,97,116,101,114],8,2),
 ([77,97,116,77,117,108],7,16),
 ([87,104,101,114,101],2,3),
 ([67,108,105,112],7,1),
 ([67,97,115,116],1,1),
 ([82,101,100,117,99,101,83,117,109],5,5),
 ([82,101,100,117,99,101,77,97,120],5,5),
 ([82,101,100,117,99,101,77,101,97,110],7,5),
 ([65,114,103,77,97,120],6,5),
 ([82,101,115,104,97,112,101],3,6),
 ([69,120,112,97,110,100],3,7),
 ([84,114,97,110,115,112,111,115,101],3,8),
 ([67,111,110,99,97,116],3,9),
 ([83,108,105,99,101],3,10),
 ([71,97,116,104,101,114],4,11),
 ([80,97,100],7,12),
 ([83,113,117,101,101,122,101],3,13),
 ([85,110,115,113,117,101,101,122,101],3,14),
 ([70,108,97,116,116,101,110],3,15),
 ([83,111,102,116,109,97,120],7,4),
 ([71,101,109,109],7,17),
 ([67,111,110,118],7,18),
 ([77,97,120,80,111,111,108],7,19),
 ([65,118,101,114,97,103,101,80,111,111,108],7,19),
 ([71,108,111,98,97,108,65,118,101,114,97,103,101,80,111,111,108],7,20),
 ([66,97,116,99,104,78,111,114,109,97,108,105,122,97,116,105,111,110],7,21),
 ([67,111,110,115,116,97,110,116],0,0)]
def grp (op:ByteArray):Nat×Nat:=((grps.find? (fun r=>r.1==op.toList)).map (·.2)).getD (99,99)
def jrx (A:At):List Int:=match (A.xs.zip A.cs).find? (fun p=>isA ⟨#[118,97,108,117,101]⟩ 4 p.1) with
 | some p=>p.2.d
 | none=>[]
def jdE (A:At) (ts:List Int):Nat→R Int
 | 0=>.ok (jeG A).ty
 | 1=>(jfx (jbx (A.int ⟨#[116,111]⟩ 0))).bind (fun _=>.ok (jbx (A.int ⟨#[116,111]⟩ 0)))
 | 2=>(jal (ts.getD 0 0==9)).bind (fun _=>ja0 ts.tail)
 | 3=>ja0 ts
 | 4=>(jal (ts.getD 1 0==6||ts.getD 1 0==7)).bind (fun _=>.ok (ts.getD 0 0))
 | 5=>(jal (ts.getD 0 0 != 9)).bind (fun _=>.ok (ts.getD 0 0))
 | 6=>(jal (ts.getD 0 0 != 9)).bind (fun _=>.ok (7:Int))
 | 7=>(ja0 ts).bind (fun t=>(jal (t==1)).bind (fun _=>.ok (1:Int)))
 | 8=>(ja0 ts).bind (fun t=>(jal (jbm A.op.toList t)).bind (fun _=>.ok (9:Int)))
 | 9=>(ja0 ts).bind (fun t=>(jal (jbm A.op.toList t)).bind (fun _=>.ok t))
 | 10=>(ja0 ts).bind (fun t=>(jal (jcq A.op.toList t)).bind (fun _=>.ok t))
 | _=>.error 5
def jfQ (A:At) (D:List (List Int)):Nat→R (List Int)
 | 0=>.ok (jrx A)
 | 1=>.ok (D.getD 0 [])
 | 2=>jaM (D.getD 0 []) (D.getD 1 [])
 | 3=>(jaM (D.getD 0 []) (D.getD 1 [])).bind (fun l=>jaM l (D.getD 2 []))
 | 4=>(jbv (jaQ A (D.getD 0 []).length) (D.getD 0 []).length).bind (fun _=>.ok (D.getD 0 []))
 | 5=>ja7 A (D.getD 0 [])
 | 6=>jaV (D.getD 0 []) (A.ints ⟨#[115,104,97,112,101]⟩ [])
 | 7=>jaM (D.getD 0 []) ((A.ints ⟨#[115,104,97,112,101]⟩ []).map jbx)
 | 8=>jbh A (D.getD 0 [])
 | 9=>jcn A (D.getD 0 []) D.tail
 | 10=>jb9 A (D.getD 0 [])
 | 11=>jfn A (D.getD 0 []) (D.getD 1 [])
 | 12=>jcs (D.getD 0 []) (A.ints ⟨#[112,97,100,115]⟩ [])
 | 13=>jbH (D.getD 0 []) (A.ints ⟨#[97,120,101,115]⟩ [])
 | 14=>jbs (D.getD 0 []) (A.ints ⟨#[97,120,101,115]⟩ [])
 | 15=>jbE A (D.getD 0 [])
 | 16=>ja8 (D.getD 0 []) (D.getD 1 [])
 | 17=>jcN A (D.getD 0 []) (D.getD 1 []) (D.drop 2).head?
 | 18=>ja4 A (D.getD 0 []) (D.getD 1 []) (D.drop 2).head?
 | 19=>jbF A (D.getD 0 [])
 | 20=>(jal (decide ((D.getD 0 []).length=4))).bind (fun _=>.ok [(D.getD 0 []).getD 0 0,(D.getD 0 []).getD 1 0,1,1])
 | 21=>ja9 (D.getD 0 []) D.tail
 | _=>.error 5
def jdV (vs:List (Val×List Int)):List (List Int):=vs.map (·.2)
structure NodeAll (w:World) (n:Nod) (ins:List ByteArray) (A:At):Prop where
 node:NodeIn w n ins A.xs A.cs
 op:A.op=n.op
 rng:∀ a∈A.xs,-9223372036854775808≤a.i∧a.i≤9223372036854775807
 lens:∀ c∈A.cs,c.i.length≤1048576
 out:n.out.size≤1048576
theorem NodeAll.more {w w':World} {n:Nod} {ins:List ByteArray} {A:At} (h:NodeAll w n ins A) (hg:w.grownBy w' none):NodeAll w' n ins A:=⟨h.node.more hg,h.op,h.rng,h.lens,h.out⟩
theorem NodeAll.ok {w:World} {n:Nod} {ins:List ByteArray} {A:At} (h:NodeAll w n ins A):NodeOk w n A:=⟨h.op,h.node.av,h.node.has,h.rng⟩
theorem NodeAll.ints_len {w:World} {n:Nod} {ins:List ByteArray} {A:At} (h:NodeAll w n ins A) (nm:ByteArray):(A.ints nm []).length≤100000000:=by
 unfold At.ints jfI
 cases hf:(A.xs.zip A.cs).find? (fun p=>isA nm 7 p.1) with
 | none=>simp
 | some p =>
  have h1:=List.mem_of_find?_eq_some hf;have h2:=h.lens p.2 (List.of_mem_zip h1).2;simp only;omega
theorem jjr:∀ {vs:List (Val×List Int)},jei vs=.ok ()→∀ p∈vs,jan p.1.ty=true∧Fine p.2
 | [],_,p,hp=>by cases hp
 | q::l,h,p,hp=>by
  simp only [jei] at h
  have h1:jan q.1.ty=true:=by
   unfold jfx at h
   by_cases e:jan q.1.ty=true
   ·exact e
   ·rw [if_neg e] at h;cases h
  have e1:jfx q.1.ty=.ok ():=by unfold jfx;rw [if_pos h1]
  rw [e1] at h
  have h2:jbt q.2=0:=by
   by_cases e:jbt q.2=0
   ·exact e
   ·have:jaS q.2=.error (jbt q.2):=by unfold jaS;rw [if_neg e]
    rw [this] at h;cases h
  have e2:jaS q.2=.ok (jbe q.2):=by unfold jaS;rw [if_pos h2]
  rw [e2] at h
  rcases List.mem_cons.1 hp with rfl | hp
  ·exact ⟨h1,jbl h2⟩
  ·exact jjr h p hp
theorem jgj {α:Type} {w w':World} {r:R α} {Q Q':α→Value→World→Prop} {e:Ending} (h:jaF w r Q e w') (hq:∀ a v,r=.ok a→Q a v w'→Q' a v w'):jaF w r Q' e w':=by
 cases r with
 | error c=>exact h
 | ok a =>
  obtain ⟨hg,v,he,hv⟩:=h;exact ⟨hg,v,he,hq a v rfl hv⟩
theorem jdW {ts:List Int} {t:Int} (h:ja0 ts=.ok t) (h0:0<ts.length):t∈ts:=by
 cases ts with
 | nil=>simp at h0
 | cons a l =>
  simp only [ja0] at h
  by_cases e:l.all (fun s=>s==a)=true
  ·rw [if_pos e] at h;obtain rfl:a=t:=by cases h;rfl
   simp
  ·rw [if_neg e] at h;cases h
theorem jaK {α β:Type} {r:R α} {f:α→R β} {b:β} (h:r.bind f=.ok b):∃ a,r=.ok a∧f a=.ok b:=by
 cases r with
 | error c=>cases h
 | ok a=>exact ⟨a,rfl,h⟩
theorem isT1:jan 1=true:=by decide
theorem isT7:jan 7=true:=by decide
theorem isT9:jan 9=true:=by decide
theorem jqK {t:Int} {u:Unit} (h:jfx t=.ok u):jan t=true:=by
 unfold jfx at h
 by_cases e:jan t=true
 ·exact e
 ·rw [if_neg e] at h;cases h
theorem joM {A:At} {ts:List Int} {g:Nat} {t:Int} (h:jdE A ts g=.ok t) (hc:g=0→jan (jeG A).ty=true) (ht:∀ s∈ts,jan s=true) (hn:g≠0→g≠1→0<ts.length) (h3:g=2→1<ts.length):jan t=true:=by
 match g with
 | 0=>simp only [jdE] at h;cases h;exact hc rfl
 | 1=>obtain ⟨a,h1,h2⟩:=jaK h;cases h2;exact jqK h1
 | 2 =>
  obtain ⟨a,h1,h2⟩:=jaK h;have:=h3 rfl;exact ht t (List.mem_of_mem_tail (jdW h2 (by rw [List.length_tail];omega)))
 | 3=>exact ht t (jdW h (hn (by decide) (by decide)))
 | 4=>obtain ⟨a,h1,h2⟩:=jaK h;cases h2;exact ht _ (jaX (hn (by decide) (by decide)))
 | 5=>obtain ⟨a,h1,h2⟩:=jaK h;cases h2;exact ht _ (jaX (hn (by decide) (by decide)))
 | 6=>obtain ⟨a,h1,h2⟩:=jaK h;cases h2;exact isT7
 | 7=>obtain ⟨a,h1,h2⟩:=jaK h;obtain ⟨b,h3,h4⟩:=jaK h2;cases h4;exact isT1
 | 8=>obtain ⟨a,h1,h2⟩:=jaK h;obtain ⟨b,h3,h4⟩:=jaK h2;cases h4;exact isT9
 | 9=>obtain ⟨a,h1,h2⟩:=jaK h;obtain ⟨b,h3,h4⟩:=jaK h2;cases h4;exact ht _ (jdW h1 (hn (by decide) (by decide)))
 | 10=>obtain ⟨a,h1,h2⟩:=jaK h;obtain ⟨b,h3,h4⟩:=jaK h2;cases h4;exact ht _ (jdW h1 (hn (by decide) (by decide)))
 | n+11=>simp [jdE] at h
theorem jkz {op:ByteArray} {l:List UInt8} (h:op.toList=l):op=⟨l.toArray⟩:=by
 rw [jaj] at h
 cases op with
 | mk d=>simp only at h;subst h;simp
theorem jbY {α:Type} {vs:List α} (h:vs.length=1):∃ a,vs=[a]:=by
 match vs,h with
 | [a],_=>exact ⟨a,rfl⟩
theorem jiT {α:Type} {vs:List α} (h:vs.length=2):∃ a b,vs=[a,b]:=by
 match vs,h with
 | [a,b],_=>exact ⟨a,b,rfl⟩
theorem jhJ {α:Type} {vs:List α} (h:vs.length=3):∃ a b c,vs=[a,b,c]:=by
 match vs,h with
 | [a,b,c],_=>exact ⟨a,b,c,rfl⟩
theorem jmZ (w:World):jak w (.slice none 0 0) []:=⟨none,0,rfl,by simp,by simp,by simp,fun _=>⟨rfl,rfl⟩,fun h=>by simp at h,fun z hz=>by simp at hz⟩
def jcv (n:Nod) (A:At) (u:Sl) (vs:List (Val×List Int)) (w:World) (g:Nat):Prop:=Calls Tryz.prog 68 #[jax n,.slice u.a u.n u.c] w (jaF w (jdE A (jaE vs) g) fun t v _=>v=.int .i64 t)
def jbS (n:Nod) (A:At) (u:Sl) (vs:List (Val×List Int)) (w:World) (g:Nat):Prop:=Calls Tryz.prog 69 #[jax n,.slice u.a u.n u.c] w (jaF w (jfQ A (jdV vs) g) jbi)
section
variable {n : Nod} {ins : List ByteArray} {A : At} {u : Sl} {vs : List (Val × List Int)} {w : World}
theorem jc8 (hop:n.op∈([⟨#[67,111,110,99,97,116]⟩,⟨#[82,101,115,104,97,112,101]⟩,⟨#[69,120,112,97,110,100]⟩,⟨#[84,114,97,110,115,112,111,115,101]⟩,⟨#[83,108,105,99,101]⟩,⟨#[83,113,117,101,101,122,101]⟩,⟨#[85,110,115,113,117,101,101,122,101]⟩,⟨#[70,108,97,116,116,101,110]⟩]:List ByteArray)) (hn:NodeAll w n ins A) (hv:ValsIn w u.v vs) (ht:∀ s∈jaE vs,jan s=true) (hl:0<vs.length) (hf:vs.length≤1000000):jcv n A u vs w 3:=by
 exact jmD n A u vs w hop hn.ok hv hl hf ht
theorem jbR (hop:n.op∈([⟨#[67,108,105,112]⟩,⟨#[83,111,102,116,109,97,120]⟩,⟨#[82,101,100,117,99,101,77,101,97,110]⟩,⟨#[80,97,100]⟩,⟨#[77,97,116,77,117,108]⟩,⟨#[71,101,109,109]⟩,⟨#[67,111,110,118]⟩,⟨#[77,97,120,80,111,111,108]⟩,⟨#[65,118,101,114,97,103,101,80,111,111,108]⟩,⟨#[71,108,111,98,97,108,65,118,101,114,97,103,101,80,111,111,108]⟩,⟨#[66,97,116,99,104,78,111,114,109,97,108,105,122,97,116,105,111,110]⟩]:List ByteArray)) (hn:NodeAll w n ins A) (hv:ValsIn w u.v vs) (ht:∀ s∈jaE vs,jan s=true) (hl:0<vs.length) (hf:vs.length≤1000000):jcv n A u vs w 7:=by
 exact jge n A u vs w hop hn.ok hv hl hf ht
theorem jdX (hop:n.op∈([⟨#[65,100,100]⟩,⟨#[83,117,98]⟩,⟨#[77,117,108]⟩,⟨#[68,105,118]⟩,⟨#[77,97,120]⟩,⟨#[77,105,110]⟩,⟨#[65,110,100]⟩,⟨#[79,114]⟩,⟨#[88,111,114]⟩]:List ByteArray)) (hn:NodeAll w n ins A) (hv:ValsIn w u.v vs) (ht:∀ s∈jaE vs,jan s=true) (hl:vs.length=2) (hf:vs.length≤1000000):jcv n A u vs w 9:=by
 unfold jcv jdE;rw [hn.op];exact joz n A u vs w hop hn.ok hv hl hf ht
theorem jdw (hop:n.op∈([⟨#[73,100,101,110,116,105,116,121]⟩,⟨#[78,101,103]⟩,⟨#[65,98,115]⟩,⟨#[78,111,116]⟩,⟨#[82,101,108,117]⟩,⟨#[83,113,114,116]⟩,⟨#[70,108,111,111,114]⟩,⟨#[69,120,112]⟩,⟨#[83,105,103,109,111,105,100]⟩,⟨#[84,97,110,104]⟩]:List ByteArray)) (hn:NodeAll w n ins A) (hv:ValsIn w u.v vs) (ht:∀ s∈jaE vs,jan s=true) (hl:vs.length=1) (hf:vs.length≤1000000):jcv n A u vs w 10:=by
 unfold jcv jdE;rw [hn.op];exact joA n A u vs w hop hn.ok hv hl hf ht
theorem jkW (hop:n.op∈([⟨#[73,100,101,110,116,105,116,121]⟩,⟨#[78,101,103]⟩,⟨#[65,98,115]⟩,⟨#[78,111,116]⟩,⟨#[82,101,108,117]⟩,⟨#[83,113,114,116]⟩,⟨#[70,108,111,111,114]⟩,⟨#[69,120,112]⟩,⟨#[83,105,103,109,111,105,100]⟩,⟨#[84,97,110,104]⟩,⟨#[67,108,105,112]⟩,⟨#[67,97,115,116]⟩]:List ByteArray)) (hn:NodeAll w n ins A) (hv:ValsIn w u.v vs) (_hf:∀ p∈vs,Fine p.2) (hl:vs.length=1):jbS n A u vs w 1:=by
 obtain ⟨⟨v0,x⟩,rfl⟩:=jbY hl;exact jrw n A u v0 x w hop hn.ok hv
theorem jcW (hop:n.op∈([⟨#[65,100,100]⟩,⟨#[83,117,98]⟩,⟨#[77,117,108]⟩,⟨#[68,105,118]⟩,⟨#[77,97,120]⟩,⟨#[77,105,110]⟩,⟨#[65,110,100]⟩,⟨#[79,114]⟩,⟨#[88,111,114]⟩,⟨#[69,113,117,97,108]⟩,⟨#[76,101,115,115]⟩,⟨#[71,114,101,97,116,101,114]⟩]:List ByteArray)) (hn:NodeAll w n ins A) (hv:ValsIn w u.v vs) (_hf:∀ p∈vs,Fine p.2) (hl:vs.length=2):jbS n A u vs w 2:=by
 obtain ⟨⟨v0,x⟩,⟨v1,y⟩,rfl⟩:=jiT hl;exact joG n A u v0 v1 x y w hop hn.ok hv
theorem jdj (hop:n.op∈([⟨#[82,101,100,117,99,101,83,117,109]⟩,⟨#[82,101,100,117,99,101,77,97,120]⟩,⟨#[82,101,100,117,99,101,77,101,97,110]⟩,⟨#[65,114,103,77,97,120]⟩]:List ByteArray)) (hn:NodeAll w n ins A) (hv:ValsIn w u.v vs) (hf:∀ p∈vs,Fine p.2) (hl:vs.length=1):jbS n A u vs w 5:=by
 obtain ⟨⟨v0,x⟩,rfl⟩:=jbY hl;exact jes n A u v0 x w hop hn.ok hv (hf (v0,x) (by simp))
theorem jgV (hop:n.op∈([⟨#[84,114,97,110,115,112,111,115,101]⟩]:List ByteArray)) (hn:NodeAll w n ins A) (hv:ValsIn w u.v vs) (hf:∀ p∈vs,Fine p.2) (hl:vs.length=1):jbS n A u vs w 8:=by
 obtain ⟨⟨v0,x⟩,rfl⟩:=jbY hl;exact jfk n A u v0 x w hop hn.ok hv (hf (v0,x) (by simp))
theorem jm0 (hop:n.op∈([⟨#[83,108,105,99,101]⟩]:List ByteArray)) (hn:NodeAll w n ins A) (hv:ValsIn w u.v vs) (hf:∀ p∈vs,Fine p.2) (hl:vs.length=1):jbS n A u vs w 10:=by
 obtain ⟨⟨v0,x⟩,rfl⟩:=jbY hl;exact jiL n A u v0 x w hop hn.ok hv (hf (v0,x) (by simp))
theorem jhK (hop:n.op∈([⟨#[70,108,97,116,116,101,110]⟩]:List ByteArray)) (hn:NodeAll w n ins A) (hv:ValsIn w u.v vs) (hf:∀ p∈vs,Fine p.2) (hl:vs.length=1):jbS n A u vs w 15:=by
 obtain ⟨⟨v0,x⟩,rfl⟩:=jbY hl;exact jfO n A u v0 x w hop hn.ok hv (hf (v0,x) (by simp))
theorem jhL (hop:n.op∈([⟨#[77,97,120,80,111,111,108]⟩,⟨#[65,118,101,114,97,103,101,80,111,111,108]⟩]:List ByteArray)) (hn:NodeAll w n ins A) (hv:ValsIn w u.v vs) (hf:∀ p∈vs,Fine p.2) (hl:vs.length=1):jbS n A u vs w 19:=by
 obtain ⟨⟨v0,x⟩,rfl⟩:=jbY hl;exact jiM n A u v0 x w hop hn.ok hv (hf (v0,x) (by simp))
theorem jkA (hop:n.op∈([⟨#[77,97,116,77,117,108]⟩]:List ByteArray)) (hn:NodeAll w n ins A) (hv:ValsIn w u.v vs) (hf:∀ p∈vs,Fine p.2) (hl:vs.length=2):jbS n A u vs w 16:=by
 obtain ⟨⟨v0,x⟩,⟨v1,y⟩,rfl⟩:=jiT hl;exact jhF n A u v0 v1 x y w hop hn.ok hv (hf (v0,x) (by simp)) (hf (v1,y) (by simp))
theorem jkB (hop:n.op∈([⟨#[82,101,115,104,97,112,101]⟩]:List ByteArray)) (hn:NodeAll w n ins A) (hv:ValsIn w u.v vs) (hf:∀ p∈vs,Fine p.2) (hl:vs.length=1):jbS n A u vs w 6:=by
 obtain ⟨⟨v0,x⟩,rfl⟩:=jbY hl;exact jhG n A u v0 x w hop hn.ok hv (hf (v0,x) (by simp)) (hn.ints_len _)
theorem jry (hop:n.op∈([⟨#[80,97,100]⟩]:List ByteArray)) (hn:NodeAll w n ins A) (hv:ValsIn w u.v vs) (hf:∀ p∈vs,Fine p.2) (hl:vs.length=1):jbS n A u vs w 12:=by
 obtain ⟨⟨v0,x⟩,rfl⟩:=jbY hl;exact joH n A u v0 x w hop hn.ok hv (hf (v0,x) (by simp))
theorem jkC (hop:n.op∈([⟨#[83,113,117,101,101,122,101]⟩]:List ByteArray)) (hn:NodeAll w n ins A) (hv:ValsIn w u.v vs) (hf:∀ p∈vs,Fine p.2) (hl:vs.length=1):jbS n A u vs w 13:=by
 obtain ⟨⟨v0,x⟩,rfl⟩:=jbY hl;exact jhH n A u v0 x w hop hn.ok hv (hf (v0,x) (by simp))
theorem jhM (hop:n.op∈([⟨#[85,110,115,113,117,101,101,122,101]⟩]:List ByteArray)) (hn:NodeAll w n ins A) (hv:ValsIn w u.v vs) (hf:∀ p∈vs,Fine p.2) (hl:vs.length=1):jbS n A u vs w 14:=by
 obtain ⟨⟨v0,x⟩,rfl⟩:=jbY hl;exact jfP n A u v0 x w hop hn.ok hv (hf (v0,x) (by simp)) (hn.ints_len _)
theorem jiU (hop:n.op=⟨#[69,113,117,97,108]⟩) (hn:NodeAll w n ins A) (hv:ValsIn w u.v vs) (ht:∀ s∈jaE vs,jan s=true) (hl:vs.length=2):jcv n A u vs w 8:=by
 have ao:A.op.toList=[69,113,117,97,108]:=by rw [hn.op,hop,jaj]
 unfold jcv jdE;simp only [ao];exact jkq n A u vs w hop hn.ok hv hl (by omega) ht
theorem jkD (hop:n.op=⟨#[76,101,115,115]⟩) (hn:NodeAll w n ins A) (hv:ValsIn w u.v vs) (ht:∀ s∈jaE vs,jan s=true) (hl:vs.length=2):jcv n A u vs w 8:=by
 have ao:A.op.toList=[76,101,115,115]:=by rw [hn.op,hop,jaj]
 unfold jcv jdE;simp only [ao];exact jmK n A u vs w hop hn.ok hv hl (by omega) ht
theorem jgW (hop:n.op=⟨#[71,114,101,97,116,101,114]⟩) (hn:NodeAll w n ins A) (hv:ValsIn w u.v vs) (ht:∀ s∈jaE vs,jan s=true) (hl:vs.length=2):jcv n A u vs w 8:=by
 have ao:A.op.toList=[71,114,101,97,116,101,114]:=by rw [hn.op,hop,jaj]
 unfold jcv jdE;simp only [ao];exact jhD n A u vs w hop hn.ok hv hl (by omega) ht
theorem jiV (hop:n.op=⟨#[87,104,101,114,101]⟩) (hn:NodeAll w n ins A) (hv:ValsIn w u.v vs) (_ht:∀ s∈jaE vs,jan s=true) (hl:vs.length=3):jcv n A u vs w 2:=by
 obtain ⟨p0,p1,p2,rfl⟩:=jhJ hl;exact jkt n A u p0 p1 p2 w hop hn.ok hv
theorem jiW (hop:n.op=⟨#[87,104,101,114,101]⟩) (hn:NodeAll w n ins A) (hv:ValsIn w u.v vs) (_hf:∀ p∈vs,Fine p.2) (hl:vs.length=3):jbS n A u vs w 3:=by
 obtain ⟨⟨v0,x⟩,⟨v1,y⟩,⟨v2,z⟩,rfl⟩:=jhJ hl;exact jku n A u v0 v1 v2 x y z w hop hn.ok hv
theorem jkE (hop:n.op=⟨#[67,97,115,116]⟩) (hn:NodeAll w n ins A) (_hv:ValsIn w u.v vs) (_ht:∀ s∈jaE vs,jan s=true) (_hl:vs.length=1):jcv n A u vs w 1:=by
 exact jmJ n A u w hop hn.ok
theorem jfq (hop:n.op=⟨#[82,101,100,117,99,101,83,117,109]⟩) (hn:NodeAll w n ins A) (hv:ValsIn w u.v vs) (ht:∀ s∈jaE vs,jan s=true) (hl:vs.length=1):jcv n A u vs w 5:=by
 exact jdv n A u vs w hop hn.ok hv hl (by omega) ht
theorem jfr (hop:n.op=⟨#[82,101,100,117,99,101,77,97,120]⟩) (hn:NodeAll w n ins A) (hv:ValsIn w u.v vs) (ht:∀ s∈jaE vs,jan s=true) (hl:vs.length=1):jcv n A u vs w 5:=by
 exact jfM n A u vs w hop hn.ok hv hl (by omega) ht
theorem jhN (hop:n.op=⟨#[65,114,103,77,97,120]⟩) (hn:NodeAll w n ins A) (hv:ValsIn w u.v vs) (ht:∀ s∈jaE vs,jan s=true) (hl:vs.length=1):jcv n A u vs w 6:=by
 exact jiH n A u vs w hop hn.ok hv hl (by omega) ht
theorem jhO (hop:n.op=⟨#[69,120,112,97,110,100]⟩) (hn:NodeAll w n ins A) (hv:ValsIn w u.v vs) (_hf:∀ p∈vs,Fine p.2) (hl:vs.length=1):jbS n A u vs w 7:=by
 obtain ⟨⟨v0,x⟩,rfl⟩:=jbY hl;exact jiN n A u v0 x w hop hn.ok hv 
theorem jhP (hop:n.op=⟨#[67,111,110,99,97,116]⟩) (hn:NodeAll w n ins A) (hv:ValsIn w u.v vs) (hf:∀ p∈vs,Fine p.2) (hlo:1≤vs.length) (hhi:vs.length≤20):jbS n A u vs w 9:=by
 match vs,hlo with
 | p0::rs,_=>exact jiO n A u p0 rs w hop hn.ok hv (by simp at hhi;omega) hf
theorem jhQ (hop:n.op=⟨#[71,97,116,104,101,114]⟩) (hn:NodeAll w n ins A) (hv:ValsIn w u.v vs) (ht:∀ s∈jaE vs,jan s=true) (hl:vs.length=2):jcv n A u vs w 4:=by
 exact jiI n A u vs w hop hn.ok hv hl (by omega) ht
theorem jhR (hop:n.op=⟨#[71,97,116,104,101,114]⟩) (hn:NodeAll w n ins A) (hv:ValsIn w u.v vs) (hf:∀ p∈vs,Fine p.2) (hl:vs.length=2):jbS n A u vs w 11:=by
 obtain ⟨⟨v0,x⟩,⟨v1,y⟩,rfl⟩:=jiT hl;exact jiQ n A u v0 v1 x y w hop hn.ok hv (hf (v0,x) (by simp)) (hf (v1,y) (by simp))
theorem jgX (hop:n.op=⟨#[83,111,102,116,109,97,120]⟩) (hn:NodeAll w n ins A) (hv:ValsIn w u.v vs) (hf:∀ p∈vs,Fine p.2) (hl:vs.length=1):jbS n A u vs w 4:=by
 obtain ⟨⟨v0,x⟩,rfl⟩:=jbY hl;exact jet n A u v0 x w hop hn.ok hv (hf (v0,x) (by simp))
theorem jkF (hop:n.op=⟨#[71,101,109,109]⟩) (hn:NodeAll w n ins A) (hv:ValsIn w u.v vs) (_hf:∀ p∈vs,Fine p.2) (hlo:2≤vs.length) (hhi:vs.length≤3):jbS n A u vs w 17:=by
 match vs,hlo with
 | p0::p1::rest,_ =>
  have e:(((p0::p1::rest).map (·.2)).drop 2).head?=rest.head?.map (·.2):=by cases rest <;> rfl
  unfold jbS jfQ jdV;simp only [e];exact jmN n A u p0 p1 rest w hop hn.ok hv (by simp at hhi;omega)
theorem jkG (hop:n.op=⟨#[67,111,110,118]⟩) (hn:NodeAll w n ins A) (hv:ValsIn w u.v vs) (hf:∀ p∈vs,Fine p.2) (hlo:2≤vs.length) (hhi:vs.length≤3):jbS n A u vs w 18:=by
 match vs,hlo with
 | p0::p1::rest,_ =>
  have e:(((p0::p1::rest).map (·.2)).drop 2).head?=rest.head?.map (·.2):=by cases rest <;> rfl
  unfold jbS jfQ jdV;simp only [e];exact jmV n A u p0 p1 rest w hop hn.ok hv (by simp at hhi;omega) hf
theorem jcT (hop:n.op=⟨#[71,108,111,98,97,108,65,118,101,114,97,103,101,80,111,111,108]⟩) (hn:NodeAll w n ins A) (hv:ValsIn w u.v vs) (_hf:∀ p∈vs,Fine p.2) (hl:vs.length=1):jbS n A u vs w 20:=by
 obtain ⟨⟨v0,x⟩,rfl⟩:=jbY hl;exact jcZ n A u v0 x w hop hn.ok hv 
theorem jcD (hop:n.op=⟨#[66,97,116,99,104,78,111,114,109,97,108,105,122,97,116,105,111,110]⟩) (hn:NodeAll w n ins A) (hv:ValsIn w u.v vs) (_hf:∀ p∈vs,Fine p.2) (hl:vs.length=5):jbS n A u vs w 21:=by
 match vs,hl with
 | p0::p1::rest,hl=>exact jcR n A u p0 p1 rest w hop hn.ok hv (by simp at hl;omega)
theorem jfR (hop:n.op=⟨#[67,111,110,115,116,97,110,116]⟩) (hn:NodeAll w n ins A) (_hv:ValsIn w u.v vs) (_ht:∀ s∈jaE vs,jan s=true) (_hl:vs.length=0):jcv n A u vs w 0:=by
 exact jgU n A u w hop hn.ok
theorem jfS (hop:n.op=⟨#[67,111,110,115,116,97,110,116]⟩) (hn:NodeAll w n ins A) (_hv:ValsIn w u.v vs) (_hf:∀ p∈vs,Fine p.2) (_hl:vs.length=0):jbS n A u vs w 0:=by
 rcases jde (P:=isA ⟨#[118,97,108,117,101]⟩ 4) hn.node.has with ⟨e1,e2⟩ | ⟨a,c,e1,e2,e3⟩
 ·have eD:jrx A=[]:=by unfold jrx;rw [e2]
  have eV:jeG A=jco:=by unfold jeG;rw [e1];rfl
  unfold jbS jfQ;simp only [eD];exact jdT n A u w hop hn.ok [] (by rw [eV];exact jmZ w)
 ·have eD:jrx A=c.d:=by unfold jrx;rw [e2]
  have eV:jeG A=a:=by unfold jeG;rw [e1];rfl
  unfold jbS jfQ;simp only [eD];exact jdT n A u w hop hn.ok c.d (by rw [eV];exact e3.d)
end
theorem jfs {op:ByteArray} {ins:List ByteArray} {out:ByteArray} {xs:List Atr} {cs:List Cont} (h:jbn (jbN op) op ins out xs cs=0):∃ r∈jdM,r.1=op.toList∧r.2.1≤(ins.length:Int)∧(ins.length:Int)≤r.2.2.1:=by
 have h1:jbM (jbN op) ins out xs=0:=by
  by_cases e:jbM (jbN op) ins out xs=0
  ·exact e
  ·rw [jbO rfl e] at h;exact absurd h e
 unfold jbN at h1
 cases hf:jdM.find? (fun r=>r.1==op.toList) with
 | none=>rw [hf] at h1;simp [jbM] at h1
 | some r =>
  rw [hf] at h1;obtain ⟨l,lo,hi,rs⟩:=r;simp only [Option.map_some,jbM] at h1;have hm:=List.mem_of_find?_eq_some hf;have he:=List.find?_some hf;refine ⟨_,hm,by simpa using he,?_,?_⟩
  ·by_cases e:(ins.length:Int)<lo
   ·rw [if_pos e] at h1;simp at h1
   ·simp only;omega
  ·by_cases e:(ins.length:Int)<lo
   ·rw [if_pos e] at h1;simp at h1
   ·rw [if_neg e] at h1
    by_cases e2:hi<(ins.length:Int)
    ·rw [if_pos e2] at h1;simp at h1
    ·simp only;omega
theorem joN (t:Int):chk t 0=jan t:=by
 unfold chk jan
 by_cases h1:t=1
 ·subst h1;decide
 ·by_cases h6:t=6
  ·subst h6;decide
  ·by_cases h7:t=7
   ·subst h7;decide
   ·by_cases h9:t=9
    ·subst h9;decide
    ·simp [h1,h6,h7,h9]
theorem jkH {A:At} {op:ByteArray} {ins:List ByteArray} {out:ByteArray} {w:World} {n:Nod} (hn:NodeIn w n ins A.xs A.cs) (h:jbn (jbN op) op ins out A.xs A.cs=0) (ho:op.toList=[67,111,110,115,116,97,110,116]):jan (jeG A).ty=true:=by
 have h1:jbM (jbN op) ins out A.xs=0:=by
  by_cases e:jbM (jbN op) ins out A.xs=0
  ·exact e
  ·rw [jbO rfl e] at h;exact absurd h e
 unfold jbn at h;rw [if_neg (by simp [h1]),if_pos (by simp [ho])] at h
 have key:∀ ty d t,pbE ty d t=0→jan ty=true:=by
  intro ty d t hp;unfold pbE at hp
  by_cases e:chk ty 0=false
  ·rw [if_pos e] at hp;simp at hp
  ·have e':chk ty 0=true:=by simpa using e
   rw [← joN];exact e'
 rcases jde (P:=isA ⟨#[118,97,108,117,101]⟩ 4) hn.has with ⟨e1,e2⟩ | ⟨a,c,e1,e2,e3⟩
 ·have eV:jeG A=jco:=by unfold jeG;rw [e1];rfl
  unfold jfX at h;rw [e2] at h;exact absurd (key _ _ _ h) (by decide)
 ·have eV:jeG A=a:=by unfold jeG;rw [e1];rfl
  unfold jfX at h;rw [e2] at h;rw [eV];exact key _ _ _ h
def Each (r:List UInt8×Int×Int×List Ra):Prop:=∀ (n:Nod) (ins:List ByteArray) (A:At) (u:Sl) (vs:List (Val×List Int)) (w:World),n.op.toList=r.1→NodeAll w n ins A→ValsIn w u.v vs→(∀ s∈jaE vs,jan s=true)→(∀ p∈vs,Fine p.2)→r.2.1≤(vs.length:Int)→(vs.length:Int)≤r.2.2.1→jcv n A u vs w (grp n.op).1∧jbS n A u vs w (grp n.op).2∧((grp n.op).1=0→n.op.toList=[67,111,110,115,116,97,110,116])∧((grp n.op).1≠0→(grp n.op).1≠1→0<vs.length)∧((grp n.op).1=2→1<vs.length)
theorem jaC {l : List UInt8} {lo hi : Int} {ra : List Ra} (t d : Nat) (hg : ((grps.find? (fun r => r.1 == l)).map (·.2)).getD (99, 99) = (t, d)) (hc : t = 0 → l = [67, 111, 110, 115, 116, 97, 110, 116]) (hp : t ≠ 0 → t ≠ 1 → 0 < lo) (hw : t = 2 → 1 < lo)
    (HT:∀ (n:Nod) (ins:List ByteArray) (A:At) (u:Sl) (vs:List (Val×List Int)) (w:World),n.op=⟨l.toArray⟩→NodeAll w n ins A→ValsIn w u.v vs→(∀ s∈jaE vs,jan s=true)→lo≤(vs.length:Int)→(vs.length:Int)≤hi→jcv n A u vs w t)
    (HD:∀ (n:Nod) (ins:List ByteArray) (A:At) (u:Sl) (vs:List (Val×List Int)) (w:World),n.op=⟨l.toArray⟩→NodeAll w n ins A→ValsIn w u.v vs→(∀ p∈vs,Fine p.2)→lo≤(vs.length:Int)→(vs.length:Int)≤hi→jbS n A u vs w d):Each (l,lo,hi,ra):=by
     intro n ins A u vs w ho hn hv ht hf h1 h2;have hop:n.op=⟨l.toArray⟩:=jkz ho;have hgg:grp n.op=(t,d):=by unfold grp;rw [ho];exact hg
     rw [hgg];simp only at h1 h2 ho ⊢;exact ⟨HT n ins A u vs w hop hn hv ht h1 h2,HD n ins A u vs w hop hn hv hf h1 h2,fun h=>ho.trans (hc h),fun h h'=>by have:=hp h h';omega,fun h=>by have:=hw h;omega⟩
theorem joO:∀ r∈jdM,Each r:=by
 unfold jdM;simp only [List.forall_mem_cons]
 exact ⟨jaC 10 1 rfl (by decide) (by decide) (by decide) (fun n ins A u vs w hop hn hv ht h1 h2=>jdw (by rw [hop];exact List.mem_of_getElem? (i:=0) rfl) hn hv ht (by omega) (by omega)) (fun n ins A u vs w hop hn hv hf h1 h2=>jkW (by rw [hop];exact List.mem_of_getElem? (i:=0) rfl) hn hv hf (by omega)),
  jaC 10 1 rfl (by decide) (by decide) (by decide) (fun n ins A u vs w hop hn hv ht h1 h2=>jdw (by rw [hop];exact List.mem_of_getElem? (i:=1) rfl) hn hv ht (by omega) (by omega)) (fun n ins A u vs w hop hn hv hf h1 h2=>jkW (by rw [hop];exact List.mem_of_getElem? (i:=1) rfl) hn hv hf (by omega)),
  jaC 10 1 rfl (by decide) (by decide) (by decide) (fun n ins A u vs w hop hn hv ht h1 h2=>jdw (by rw [hop];exact List.mem_of_getElem? (i:=2) rfl) hn hv ht (by omega) (by omega)) (fun n ins A u vs w hop hn hv hf h1 h2=>jkW (by rw [hop];exact List.mem_of_getElem? (i:=2) rfl) hn hv hf (by omega)),
  jaC 10 1 rfl (by decide) (by decide) (by decide) (fun n ins A u vs w hop hn hv ht h1 h2=>jdw (by rw [hop];exact List.mem_of_getElem? (i:=3) rfl) hn hv ht (by omega) (by omega)) (fun n ins A u vs w hop hn hv hf h1 h2=>jkW (by rw [hop];exact List.mem_of_getElem? (i:=3) rfl) hn hv hf (by omega)),
  jaC 10 1 rfl (by decide) (by decide) (by decide) (fun n ins A u vs w hop hn hv ht h1 h2=>jdw (by rw [hop];exact List.mem_of_getElem? (i:=4) rfl) hn hv ht (by omega) (by omega)) (fun n ins A u vs w hop hn hv hf h1 h2=>jkW (by rw [hop];exact List.mem_of_getElem? (i:=4) rfl) hn hv hf (by omega)),
  jaC 10 1 rfl (by decide) (by decide) (by decide) (fun n ins A u vs w hop hn hv ht h1 h2=>jdw (by rw [hop];exact List.mem_of_getElem? (i:=5) rfl) hn hv ht (by omega) (by omega)) (fun n ins A u vs w hop hn hv hf h1 h2=>jkW (by rw [hop];exact List.mem_of_getElem? (i:=5) rfl) hn hv hf (by omega)),
  jaC 10 1 rfl (by decide) (by decide) (by decide) (fun n ins A u vs w hop hn hv ht h1 h2=>jdw (by rw [hop];exact List.mem_of_getElem? (i:=6) rfl) hn hv ht (by omega) (by omega)) (fun n ins A u vs w hop hn hv hf h1 h2=>jkW (by rw [hop];exact List.mem_of_getElem? (i:=6) rfl) hn hv hf (by omega)),
  jaC 10 1 rfl (by decide) (by decide) (by decide) (fun n ins A u vs w hop hn hv ht h1 h2=>jdw (by rw [hop];exact List.mem_of_getElem? (i:=7) rfl) hn hv ht (by omega) (by omega)) (fun n ins A u vs w hop hn hv hf h1 h2=>jkW (by rw [hop];exact List.mem_of_getElem? (i:=7) rfl) hn hv hf (by omega)),
  jaC 10 1 rfl (by decide) (by decide) (by decide) (fun n ins A u vs w hop hn hv ht h1 h2=>jdw (by rw [hop];exact List.mem_of_getElem? (i:=8) rfl) hn hv ht (by omega) (by omega)) (fun n ins A u vs w hop hn hv hf h1 h2=>jkW (by rw [hop];exact List.mem_of_getElem? (i:=8) rfl) hn hv hf (by omega)),
  jaC 10 1 rfl (by decide) (by decide) (by decide) (fun n ins A u vs w hop hn hv ht h1 h2=>jdw (by rw [hop];exact List.mem_of_getElem? (i:=9) rfl) hn hv ht (by omega) (by omega)) (fun n ins A u vs w hop hn hv hf h1 h2=>jkW (by rw [hop];exact List.mem_of_getElem? (i:=9) rfl) hn hv hf (by omega)),
  jaC 9 2 rfl (by decide) (by decide) (by decide) (fun n ins A u vs w hop hn hv ht h1 h2=>jdX (by rw [hop];exact List.mem_of_getElem? (i:=0) rfl) hn hv ht (by omega) (by omega)) (fun n ins A u vs w hop hn hv hf h1 h2=>jcW (by rw [hop];exact List.mem_of_getElem? (i:=0) rfl) hn hv hf (by omega)),
  jaC 9 2 rfl (by decide) (by decide) (by decide) (fun n ins A u vs w hop hn hv ht h1 h2=>jdX (by rw [hop];exact List.mem_of_getElem? (i:=1) rfl) hn hv ht (by omega) (by omega)) (fun n ins A u vs w hop hn hv hf h1 h2=>jcW (by rw [hop];exact List.mem_of_getElem? (i:=1) rfl) hn hv hf (by omega)),
  jaC 9 2 rfl (by decide) (by decide) (by decide) (fun n ins A u vs w hop hn hv ht h1 h2=>jdX (by rw [hop];exact List.mem_of_getElem? (i:=2) rfl) hn hv ht (by omega) (by omega)) (fun n ins A u vs w hop hn hv hf h1 h2=>jcW (by rw [hop];exact List.mem_of_getElem? (i:=2) rfl) hn hv hf (by omega)),
  jaC 9 2 rfl (by decide) (by decide) (by decide) (fun n ins A u vs w hop hn hv ht h1 h2=>jdX (by rw [hop];exact List.mem_of_getElem? (i:=3) rfl) hn hv ht (by omega) (by omega)) (fun n ins A u vs w hop hn hv hf h1 h2=>jcW (by rw [hop];exact List.mem_of_getElem? (i:=3) rfl) hn hv hf (by omega)),
  jaC 9 2 rfl (by decide) (by decide) (by decide) (fun n ins A u vs w hop hn hv ht h1 h2=>jdX (by rw [hop];exact List.mem_of_getElem? (i:=4) rfl) hn hv ht (by omega) (by omega)) (fun n ins A u vs w hop hn hv hf h1 h2=>jcW (by rw [hop];exact List.mem_of_getElem? (i:=4) rfl) hn hv hf (by omega)),
  jaC 9 2 rfl (by decide) (by decide) (by decide) (fun n ins A u vs w hop hn hv ht h1 h2=>jdX (by rw [hop];exact List.mem_of_getElem? (i:=5) rfl) hn hv ht (by omega) (by omega)) (fun n ins A u vs w hop hn hv hf h1 h2=>jcW (by rw [hop];exact List.mem_of_getElem? (i:=5) rfl) hn hv hf (by omega)),
  jaC 9 2 rfl (by decide) (by decide) (by decide) (fun n ins A u vs w hop hn hv ht h1 h2=>jdX (by rw [hop];exact List.mem_of_getElem? (i:=6) rfl) hn hv ht (by omega) (by omega)) (fun n ins A u vs w hop hn hv hf h1 h2=>jcW (by rw [hop];exact List.mem_of_getElem? (i:=6) rfl) hn hv hf (by omega)),
  jaC 9 2 rfl (by decide) (by decide) (by decide) (fun n ins A u vs w hop hn hv ht h1 h2=>jdX (by rw [hop];exact List.mem_of_getElem? (i:=7) rfl) hn hv ht (by omega) (by omega)) (fun n ins A u vs w hop hn hv hf h1 h2=>jcW (by rw [hop];exact List.mem_of_getElem? (i:=7) rfl) hn hv hf (by omega)),
  jaC 9 2 rfl (by decide) (by decide) (by decide) (fun n ins A u vs w hop hn hv ht h1 h2=>jdX (by rw [hop];exact List.mem_of_getElem? (i:=8) rfl) hn hv ht (by omega) (by omega)) (fun n ins A u vs w hop hn hv hf h1 h2=>jcW (by rw [hop];exact List.mem_of_getElem? (i:=8) rfl) hn hv hf (by omega)),
  jaC 8 2 rfl (by decide) (by decide) (by decide) (fun n ins A u vs w hop hn hv ht h1 h2=>jiU hop hn hv ht (by omega)) (fun n ins A u vs w hop hn hv hf h1 h2=>jcW (by rw [hop];exact List.mem_of_getElem? (i:=9) rfl) hn hv hf (by omega)),
  jaC 8 2 rfl (by decide) (by decide) (by decide) (fun n ins A u vs w hop hn hv ht h1 h2=>jkD hop hn hv ht (by omega)) (fun n ins A u vs w hop hn hv hf h1 h2=>jcW (by rw [hop];exact List.mem_of_getElem? (i:=10) rfl) hn hv hf (by omega)),
  jaC 8 2 rfl (by decide) (by decide) (by decide) (fun n ins A u vs w hop hn hv ht h1 h2=>jgW hop hn hv ht (by omega)) (fun n ins A u vs w hop hn hv hf h1 h2=>jcW (by rw [hop];exact List.mem_of_getElem? (i:=11) rfl) hn hv hf (by omega)),
  jaC 7 16 rfl (by decide) (by decide) (by decide) (fun n ins A u vs w hop hn hv ht h1 h2=>jbR (by rw [hop];exact List.mem_of_getElem? (i:=4) rfl) hn hv ht (by omega) (by omega)) (fun n ins A u vs w hop hn hv hf h1 h2=>jkA (by rw [hop];exact List.mem_of_getElem? (i:=0) rfl) hn hv hf (by omega)),
  jaC 2 3 rfl (by decide) (by decide) (by decide) (fun n ins A u vs w hop hn hv ht h1 h2=>jiV hop hn hv ht (by omega)) (fun n ins A u vs w hop hn hv hf h1 h2=>jiW hop hn hv hf (by omega)),
  jaC 7 1 rfl (by decide) (by decide) (by decide) (fun n ins A u vs w hop hn hv ht h1 h2=>jbR (by rw [hop];exact List.mem_of_getElem? (i:=0) rfl) hn hv ht (by omega) (by omega)) (fun n ins A u vs w hop hn hv hf h1 h2=>jkW (by rw [hop];exact List.mem_of_getElem? (i:=10) rfl) hn hv hf (by omega)),
  jaC 1 1 rfl (by decide) (by decide) (by decide) (fun n ins A u vs w hop hn hv ht h1 h2=>jkE hop hn hv ht (by omega)) (fun n ins A u vs w hop hn hv hf h1 h2=>jkW (by rw [hop];exact List.mem_of_getElem? (i:=11) rfl) hn hv hf (by omega)),
  jaC 5 5 rfl (by decide) (by decide) (by decide) (fun n ins A u vs w hop hn hv ht h1 h2=>jfq hop hn hv ht (by omega)) (fun n ins A u vs w hop hn hv hf h1 h2=>jdj (by rw [hop];exact List.mem_of_getElem? (i:=0) rfl) hn hv hf (by omega)),
  jaC 5 5 rfl (by decide) (by decide) (by decide) (fun n ins A u vs w hop hn hv ht h1 h2=>jfr hop hn hv ht (by omega)) (fun n ins A u vs w hop hn hv hf h1 h2=>jdj (by rw [hop];exact List.mem_of_getElem? (i:=1) rfl) hn hv hf (by omega)),
  jaC 7 5 rfl (by decide) (by decide) (by decide) (fun n ins A u vs w hop hn hv ht h1 h2=>jbR (by rw [hop];exact List.mem_of_getElem? (i:=2) rfl) hn hv ht (by omega) (by omega)) (fun n ins A u vs w hop hn hv hf h1 h2=>jdj (by rw [hop];exact List.mem_of_getElem? (i:=2) rfl) hn hv hf (by omega)),
  jaC 6 5 rfl (by decide) (by decide) (by decide) (fun n ins A u vs w hop hn hv ht h1 h2=>jhN hop hn hv ht (by omega)) (fun n ins A u vs w hop hn hv hf h1 h2=>jdj (by rw [hop];exact List.mem_of_getElem? (i:=3) rfl) hn hv hf (by omega)),
  jaC 3 6 rfl (by decide) (by decide) (by decide) (fun n ins A u vs w hop hn hv ht h1 h2=>jc8 (by rw [hop];exact List.mem_of_getElem? (i:=1) rfl) hn hv ht (by omega) (by omega)) (fun n ins A u vs w hop hn hv hf h1 h2=>jkB (by rw [hop];exact List.mem_of_getElem? (i:=0) rfl) hn hv hf (by omega)),
  jaC 3 7 rfl (by decide) (by decide) (by decide) (fun n ins A u vs w hop hn hv ht h1 h2=>jc8 (by rw [hop];exact List.mem_of_getElem? (i:=2) rfl) hn hv ht (by omega) (by omega)) (fun n ins A u vs w hop hn hv hf h1 h2=>jhO hop hn hv hf (by omega)),
  jaC 3 8 rfl (by decide) (by decide) (by decide) (fun n ins A u vs w hop hn hv ht h1 h2=>jc8 (by rw [hop];exact List.mem_of_getElem? (i:=3) rfl) hn hv ht (by omega) (by omega)) (fun n ins A u vs w hop hn hv hf h1 h2=>jgV (by rw [hop];exact List.mem_of_getElem? (i:=0) rfl) hn hv hf (by omega)),
  jaC 3 9 rfl (by decide) (by decide) (by decide) (fun n ins A u vs w hop hn hv ht h1 h2=>jc8 (by rw [hop];exact List.mem_of_getElem? (i:=0) rfl) hn hv ht (by omega) (by omega)) (fun n ins A u vs w hop hn hv hf h1 h2=>jhP hop hn hv hf (by omega) (by omega)),
  jaC 3 10 rfl (by decide) (by decide) (by decide) (fun n ins A u vs w hop hn hv ht h1 h2=>jc8 (by rw [hop];exact List.mem_of_getElem? (i:=4) rfl) hn hv ht (by omega) (by omega)) (fun n ins A u vs w hop hn hv hf h1 h2=>jm0 (by rw [hop];exact List.mem_of_getElem? (i:=0) rfl) hn hv hf (by omega)),
  jaC 4 11 rfl (by decide) (by decide) (by decide) (fun n ins A u vs w hop hn hv ht h1 h2=>jhQ hop hn hv ht (by omega)) (fun n ins A u vs w hop hn hv hf h1 h2=>jhR hop hn hv hf (by omega)),
  jaC 7 12 rfl (by decide) (by decide) (by decide) (fun n ins A u vs w hop hn hv ht h1 h2=>jbR (by rw [hop];exact List.mem_of_getElem? (i:=3) rfl) hn hv ht (by omega) (by omega)) (fun n ins A u vs w hop hn hv hf h1 h2=>jry (by rw [hop];exact List.mem_of_getElem? (i:=0) rfl) hn hv hf (by omega)),
  jaC 3 13 rfl (by decide) (by decide) (by decide) (fun n ins A u vs w hop hn hv ht h1 h2=>jc8 (by rw [hop];exact List.mem_of_getElem? (i:=5) rfl) hn hv ht (by omega) (by omega)) (fun n ins A u vs w hop hn hv hf h1 h2=>jkC (by rw [hop];exact List.mem_of_getElem? (i:=0) rfl) hn hv hf (by omega)),
  jaC 3 14 rfl (by decide) (by decide) (by decide) (fun n ins A u vs w hop hn hv ht h1 h2=>jc8 (by rw [hop];exact List.mem_of_getElem? (i:=6) rfl) hn hv ht (by omega) (by omega)) (fun n ins A u vs w hop hn hv hf h1 h2=>jhM (by rw [hop];exact List.mem_of_getElem? (i:=0) rfl) hn hv hf (by omega)),
  jaC 3 15 rfl (by decide) (by decide) (by decide) (fun n ins A u vs w hop hn hv ht h1 h2=>jc8 (by rw [hop];exact List.mem_of_getElem? (i:=7) rfl) hn hv ht (by omega) (by omega)) (fun n ins A u vs w hop hn hv hf h1 h2=>jhK (by rw [hop];exact List.mem_of_getElem? (i:=0) rfl) hn hv hf (by omega)),
  jaC 7 4 rfl (by decide) (by decide) (by decide) (fun n ins A u vs w hop hn hv ht h1 h2=>jbR (by rw [hop];exact List.mem_of_getElem? (i:=1) rfl) hn hv ht (by omega) (by omega)) (fun n ins A u vs w hop hn hv hf h1 h2=>jgX hop hn hv hf (by omega)),
  jaC 7 17 rfl (by decide) (by decide) (by decide) (fun n ins A u vs w hop hn hv ht h1 h2=>jbR (by rw [hop];exact List.mem_of_getElem? (i:=5) rfl) hn hv ht (by omega) (by omega)) (fun n ins A u vs w hop hn hv hf h1 h2=>jkF hop hn hv hf (by omega) (by omega)),
  jaC 7 18 rfl (by decide) (by decide) (by decide) (fun n ins A u vs w hop hn hv ht h1 h2=>jbR (by rw [hop];exact List.mem_of_getElem? (i:=6) rfl) hn hv ht (by omega) (by omega)) (fun n ins A u vs w hop hn hv hf h1 h2=>jkG hop hn hv hf (by omega) (by omega)),
  jaC 7 19 rfl (by decide) (by decide) (by decide) (fun n ins A u vs w hop hn hv ht h1 h2=>jbR (by rw [hop];exact List.mem_of_getElem? (i:=7) rfl) hn hv ht (by omega) (by omega)) (fun n ins A u vs w hop hn hv hf h1 h2=>jhL (by rw [hop];exact List.mem_of_getElem? (i:=0) rfl) hn hv hf (by omega)),
  jaC 7 19 rfl (by decide) (by decide) (by decide) (fun n ins A u vs w hop hn hv ht h1 h2=>jbR (by rw [hop];exact List.mem_of_getElem? (i:=8) rfl) hn hv ht (by omega) (by omega)) (fun n ins A u vs w hop hn hv hf h1 h2=>jhL (by rw [hop];exact List.mem_of_getElem? (i:=1) rfl) hn hv hf (by omega)),
  jaC 7 20 rfl (by decide) (by decide) (by decide) (fun n ins A u vs w hop hn hv ht h1 h2=>jbR (by rw [hop];exact List.mem_of_getElem? (i:=9) rfl) hn hv ht (by omega) (by omega)) (fun n ins A u vs w hop hn hv hf h1 h2=>jcT hop hn hv hf (by omega)),
  jaC 7 21 rfl (by decide) (by decide) (by decide) (fun n ins A u vs w hop hn hv ht h1 h2=>jbR (by rw [hop];exact List.mem_of_getElem? (i:=10) rfl) hn hv ht (by omega) (by omega)) (fun n ins A u vs w hop hn hv hf h1 h2=>jcD hop hn hv hf (by omega)),
  jaC 0 0 rfl (by decide) (by decide) (by decide) (fun n ins A u vs w hop hn hv ht h1 h2=>jfR hop hn hv ht (by omega)) (fun n ins A u vs w hop hn hv hf h1 h2=>jfS hop hn hv hf (by omega)),fun r hr=>absurd hr (List.not_mem_nil)⟩
def jkX (n:Nod) (ins:List ByteArray) (A:At) (vs:List (Val×List Int)):R (Int×List Int) :=
 jby (jbn (jbN n.op) n.op ins n.out A.xs A.cs) (decide (vs.length=ins.length)) vs (jdE A (jaE vs) (grp n.op).1) (jfQ A (jdV vs) (grp n.op).2) (jcH (A.xs.find? (isA ⟨#[116,104,101,110]⟩ 3)))
theorem jm1 {n:Nod} {ins:List ByteArray} {A:At} {u:Sl} {vs:List (Val×List Int)} {w:World} (hn:NodeAll w n ins A) (hv:ValsIn w u.v vs) (hc:jbn (jbN n.op) n.op ins n.out A.xs A.cs=0) (hl:vs.length=ins.length) (hi:jei vs=.ok ()):Calls Tryz.prog 68 #[jax n,.slice u.a u.n u.c] w (jaF w (jdE A (jaE vs) (grp n.op).1) fun t v _=>v=.int .i64 t∧jan t=true)∧Calls Tryz.prog 69 #[jax n,.slice u.a u.n u.c] w (jaF w (jfQ A (jdV vs) (grp n.op).2) jbi):=by
 obtain ⟨r,hr,h1,h2,h3⟩:=jfs hc;have hall:=jjr hi
 have ht:∀ s∈jaE vs,jan s=true:=by
  intro s hs;obtain ⟨p,hp,rfl⟩:=List.mem_map.1 hs;exact (hall p hp).1
 rw [← hl] at h2 h3;obtain ⟨a1,a2,a3,a4,a5⟩:=joO r hr n ins A u vs w h1.symm hn hv ht (fun p hp=>(hall p hp).2) h2 h3;refine ⟨a1.mono fun e w' he=>jgj he fun t v e1 e2=>⟨e2,?_⟩,a2⟩;have hlen:(jaE vs).length=vs.length:=List.length_map ..;exact joM e1 (fun h0=>jkH hn.node hc (a3 h0)) ht (fun x y=>by rw [hlen];exact a4 x y) (fun x=>by rw [hlen];exact a5 x)
theorem jrz (n:Nod) (ins:List ByteArray) (A:At) (u:Sl) (vs:List (Val×List Int)) (w:World) (hl:Laid w) (hn:NodeAll w n ins A) (hv:ValsIn w u.v vs):Calls Tryz.prog 25 #[jax n,.slice u.a u.n u.c] w (jnB n.out w (jkX n ins A vs)):=by
 refine jmH n u _ w fun wx hx=>?_;have ho:=hn.out;refine (jfc n A ins u vs wx (hl.more hx) (hn.more hx).node (hv.more hx) (by omega) (jdE A (jaE vs) (grp n.op).1) (jfQ A (jdV vs) (grp n.op).2) (fun hc hll hi wy hy=>(jm1 (hn.more (jaa hx hy)) (hv.more (jaa hx hy)) hc hll hi).1) (fun hc hll hi wy hy=>(jm1 (hn.more (jaa hx hy)) (hv.more (jaa hx hy)) hc hll hi).2)).mono fun e w' he=>?_;exact jgj he fun r v e1 e2=>e2
end Go.Proofs.YtekocmdfaaoggaaGreatDoor
namespace Go.Proofs.YtekocmdfaaoggaaGreatDoor
def NZ {α:Type} (r:R α):Prop:=∀ c,r=.error c→c≠0
theorem NZ.ok {α:Type} {a:α} : NZ (.ok a:R α):=fun c h=>by cases h
theorem NZ.err {α:Type} {c:Int} (h:c≠0):NZ (.error c:R α):=fun d e=>by cases e;exact h
theorem NZ.bind {α β:Type} {r:R α} {f:α→R β} (h:NZ r) (hf:∀ a,r=.ok a→NZ (f a)):NZ (r.bind f):=by
 cases r with
 | error c=>exact fun d e=>h d (by cases e;rfl)
 | ok a=>exact hf a rfl
theorem NZ.must {b:Bool} : NZ (jal b):=by
 unfold jal
 split
 ·exact .ok
 ·exact .err (by decide)
theorem NZ.stop {e:Int} : NZ (jfJ e):=by
 unfold jfJ
 split
 ·exact .ok
 ·exact .err (by assumption)
theorem NZ.typ {t:Int} : NZ (jfx t):=by
 unfold jfx
 split
 ·exact .ok
 ·exact .err (by decide)
theorem NZ.count {zs:List Int} : NZ (jaS zs):=by
 unfold jaS
 split
 ·exact .ok
 ·exact .err (by assumption)
theorem NZ.spread {a b:List Int} : NZ (jaM a b):=by
 unfold jaM
 split
 ·exact .ok
 ·exact .err (by assumption)
theorem NZ.axis {a:Int} {r:Nat} : NZ (jdp a r):=by
 unfold jdp
 split
 ·exact .ok
 ·exact .err (by decide)
theorem NZ.axes {l:List Int} {r:Nat} : NZ (jbv l r):=by
 unfold jbv
 split
 ·exact .ok
 ·exact .err (by decide)
theorem NZ.isOn {x:Int} : NZ (jd9 x):=by
 unfold jd9
 split
 ·exact .ok
 ·split
  ·exact .ok
  ·exact .err (by decide)
theorem NZ.same {l:List Int} : NZ (ja0 l):=by
 cases l with
 | nil=>exact .ok
 | cons t l =>
  simp only [ja0]
  split
  ·exact .ok
  ·exact .err (by decide)
theorem NZ.shape {x:List Int} {count:Int} : ∀ {l:List Int} {i:Nat} {left:Option Nat} {known:Int} {dims:List Int},NZ (jbG x count l i left known dims)
 | [],_,_,_,_=>.ok
 | d::l,i,left,known,dims=>by
  unfold jbG;refine NZ.bind ?_ fun a _=>NZ.bind .must fun _ _=>NZ.bind .must fun _ _=>NZ.shape
  split
  ·split
   ·exact .ok
   ·exact .err (by decide)
  ·split
   ·split
    ·exact .ok
    ·exact .err (by decide)
   ·exact .ok
theorem NZ.map {α β:Type} {r:R α} {f:α→β} (h:NZ r):NZ (r.map f):=by
 cases r with
 | error c=>exact fun d e=>h d (by cases e;rfl)
 | ok a=>exact .ok
theorem NZ.perm {x:List Int} : ∀ {l:List Int},NZ (jdA x l)
 | []=>.ok
 | p::l=>by
  unfold jdA
  split
  ·exact NZ.map NZ.perm
  ·exact .err (by decide)
theorem NZ.join {a:Nat} : ∀ {l:List (List Int)} {d:List Int},NZ (jea a l d)
 | [],_=>.ok
 | _::_,_=>NZ.bind .must fun _ _=>NZ.bind .must fun _ _=>NZ.join
theorem NZ.slice {x:List Int} : ∀ {al ss es d:List Int},NZ (jbU x al ss es d)
 | [],_,_,_=>by unfold jbU;exact .ok
 | _::_,[],_,_=>by unfold jbU;exact .ok
 | _::_,_::_,[],_=>by unfold jbU;exact .ok
 | _::_,_::_,_::_,_=>NZ.bind .axis fun _ _=>NZ.bind .must fun _ _=>NZ.slice
theorem NZ.pad {r:Nat} : ∀ {l:List Int} {i:Nat} {d:List Int},NZ (jn4 r l i d)
 | [],_,_=>.ok
 | _::_,_,_=>NZ.bind .must fun _ _=>NZ.pad
theorem NZ.squeeze:∀ {l:List Int} {g:List Bool},NZ (jbk l g)
 | [],_=>by unfold jbk;exact .ok
 | _::_,[]=>by unfold jbk;exact .ok
 | d::l,g::gs=>by
  unfold jbk
  split
  ·split
   ·exact NZ.squeeze
   ·exact .err (by decide)
  ·exact NZ.map NZ.squeeze
theorem NZ.within {l:List Int} {m:Nat} {b:Int} : NZ (ja1 l m b):=NZ.bind .must fun _ _=>NZ.bind .must fun _ _=>.ok
theorem NZ.places {A:At} {x k:List Int} {n:Nat} : NZ (jaH A x k n):=NZ.bind .within fun _ _=>NZ.bind .within fun _ _=>NZ.bind .within fun _ _=>NZ.bind .must fun _ _=>.ok
theorem NZ.product {x y:List Int} : NZ (ja8 x y):=NZ.bind .must fun _ _=>NZ.bind .must fun _ _=>NZ.bind .spread fun _ _=>.ok
theorem NZ.turned {x:List Int} {t:Int} : NZ (jbw x t):=NZ.bind .must fun _ _=>NZ.bind .isOn fun _ _=>.ok
theorem NZ.gemm {A:At} {x y:List Int} {z:Option (List Int)} : NZ (jcN A x y z):=by
 refine NZ.bind .turned fun _ _=>NZ.bind .turned fun _ _=>NZ.bind .product fun _ _=>?_
 cases z with
 | none=>exact .ok
 | some c=>exact NZ.bind .spread fun _ _=>NZ.bind .must fun _ _=>.ok
theorem NZ.conv {A:At} {x y:List Int} {z:Option (List Int)} : NZ (ja4 A x y z):=NZ.bind .must fun _ _=>NZ.bind .must fun _ _=>NZ.bind .must fun _ _=>NZ.bind .must fun _ _=>NZ.bind .places fun _ _=>NZ.bind .places fun _ _=>.ok
theorem NZ.dims {A:At} {D:List (List Int)} {g:Nat} : NZ (jfQ A D g):=by
 match g with
 | 0=>exact .ok
 | 1=>exact .ok
 | 2=>exact .spread
 | 3=>exact NZ.bind .spread fun _ _=>.spread
 | 4=>exact NZ.bind .axes fun _ _=>.ok
 | 5=>exact NZ.bind .isOn fun _ _=>NZ.bind .axes fun _ _=>.ok
 | 6=>exact NZ.bind .count fun _ _=>NZ.bind .shape fun _ _=>NZ.bind .must fun _ _=>.ok
 | 7=>exact .spread
 | 8=>exact NZ.bind .must fun _ _=>NZ.bind .axes fun _ _=>.perm
 | 9=>exact NZ.bind .axis fun _ _=>.join
 | 10=>exact NZ.bind .must fun _ _=>NZ.bind .axes fun _ _=>.slice
 | 11=>exact NZ.bind .axis fun _ _=>.ok
 | 12=>exact NZ.bind .must fun _ _=>.pad
 | 13=>exact NZ.bind .axes fun _ _=>.squeeze
 | 14=>exact NZ.bind .axes fun _ _=>.ok
 | 15=>exact NZ.bind .must fun _ _=>NZ.bind .count fun _ _=>NZ.bind .count fun _ _=>.ok
 | 16=>exact .product
 | 17=>exact .gemm
 | 18=>exact .conv
 | 19=>exact NZ.bind .must fun _ _=>NZ.bind .within fun _ _=>NZ.bind .within fun _ _=>NZ.bind .must fun _ _=>NZ.bind .places fun _ _=>NZ.bind .places fun _ _=>.ok
 | 20=>exact NZ.bind .must fun _ _=>.ok
 | 21=>exact NZ.bind .must fun _ _=>NZ.bind .must fun _ _=>.ok
 | n+22=>exact .err (by decide)
theorem NZ.type {A:At} {ts:List Int} {g:Nat} : NZ (jdE A ts g):=by
 match g with
 | 0=>exact .ok
 | 1=>exact NZ.bind .typ fun _ _=>.ok
 | 2=>exact NZ.bind .must fun _ _=>.same
 | 3=>exact .same
 | 4=>exact NZ.bind .must fun _ _=>.ok
 | 5=>exact NZ.bind .must fun _ _=>.ok
 | 6=>exact NZ.bind .must fun _ _=>.ok
 | 7=>exact NZ.bind .same fun _ _=>NZ.bind .must fun _ _=>.ok
 | 8=>exact NZ.bind .same fun _ _=>NZ.bind .must fun _ _=>.ok
 | 9=>exact NZ.bind .same fun _ _=>NZ.bind .must fun _ _=>.ok
 | 10=>exact NZ.bind .same fun _ _=>NZ.bind .must fun _ _=>.ok
 | n+11=>exact .err (by decide)
theorem NZ.vin:∀ {vs:List (Val×List Int)},NZ (jei vs)
 | []=>.ok
 | _::_=>NZ.bind .typ fun _ _=>NZ.bind .count fun _ _=>NZ.vin
theorem NZ.thens {t:Int} : ∀ {os:List ByteArray},NZ (jc7 t os)
 | []=>.ok
 | _::_=>NZ.bind .must fun _ _=>NZ.thens
theorem joP {n:Nod} {ins:List ByteArray} {A:At} {vs:List (Val×List Int)} {c:Int} (h:jkX n ins A vs=.error c):c≠0 :=
 (NZ.bind .stop fun _ _=>NZ.bind .must fun _ _=>NZ.bind .vin fun _ _=>NZ.bind .type fun _ _=>NZ.bind .dims fun _ _=>NZ.bind .count fun _ _=>NZ.bind .thens fun _ _=>.ok:NZ (jkX n ins A vs)) c h
structure OutOk (n:Nod) (ins:List ByteArray) (A:At) (vs:List (Val×List Int)) (r:Int×List Int):Prop where
 chk:jbn (jbN n.op) n.op ins n.out A.xs A.cs=0
 len:vs.length=ins.length
 vin:jei vs=.ok ()
 typ:jdE A (jaE vs) (grp n.op).1=.ok r.1
 dim:jfQ A (jdV vs) (grp n.op).2=.ok r.2
 cnt:jbt r.2=0
 thn:jc7 r.1 (jcH (A.xs.find? (isA ⟨#[116,104,101,110]⟩ 3)))=.ok ()
theorem jem {b:Bool} {u:Unit} (h:jal b=.ok u):b=true:=by
 unfold jal at h
 split at h
 ·assumption
 ·cases h
theorem joQ {e:Int} {u:Unit} (h:jfJ e=.ok u):e=0:=by
 unfold jfJ at h
 split at h
 ·assumption
 ·cases h
theorem jm2 {zs:List Int} {c:Int} (h:jaS zs=.ok c):jbt zs=0:=by
 unfold jaS at h
 split at h
 ·assumption
 ·cases h
theorem jqL {n:Nod} {ins:List ByteArray} {A:At} {vs:List (Val×List Int)} {r:Int×List Int} (h:jkX n ins A vs=.ok r):OutOk n ins A vs r:=by
 unfold jkX jby at h;obtain ⟨_,h1,h⟩:=jaK h;obtain ⟨_,h2,h⟩:=jaK h;obtain ⟨_,h3,h⟩:=jaK h;obtain ⟨t,h4,h⟩:=jaK h;obtain ⟨d,h5,h⟩:=jaK h;obtain ⟨_,h6,h⟩:=jaK h;obtain ⟨_,h7,h⟩:=jaK h
 cases h
 exact ⟨joQ h1,of_decide_eq_true (jem h2),h3,h4,h5,jm2 h6,h7⟩
theorem OutOk.eq {n:Nod} {ins:List ByteArray} {A:At} {vs:List (Val×List Int)} {r:Int×List Int} (h:OutOk n ins A vs r):jkX n ins A vs=.ok r:=by
 unfold jkX jby;have e1:jfJ (jbn (jbN n.op) n.op ins n.out A.xs A.cs)=.ok ():=by rw [h.chk];rfl
 have e2:jal (decide (vs.length=ins.length))=.ok ():=by rw [decide_eq_true h.len];rfl
 have e3:jaS r.2=.ok (jbe r.2):=by unfold jaS;rw [if_pos h.cnt]
 rw [e1,e2,h.vin,h.typ,h.dim];show (jaS r.2).bind _=_;rw [e3];show (jc7 r.1 _).bind _=_;rw [h.thn]
 rfl
end Go.Proofs.YtekocmdfaaoggaaGreatDoor
