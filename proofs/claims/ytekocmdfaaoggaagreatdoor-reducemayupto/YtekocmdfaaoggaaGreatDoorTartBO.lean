/- A part. -/
import Derived.Test.YtekocmdfaaoggaaGreatDoorTartAX
import Derived.Test.YtekocmdfaaoggaaGreatDoorTartBN
import Derived.Test.YtekocmdfaaoggaaGreatDoorTartBH
import Derived.Test.YtekocmdfaaoggaaGreatDoorTartAQ
import Derived.Deep.RegionHeld3
import Derived.Test.YtekocmdfaaoggaaGreatDoorTartBL
import Derived.Deep.RegionWith
import Derived.Test.YtekocmdfaaoggaaGreatDoorTartAW
import Derived.Test.YtekocmdfaaoggaaGreatDoorTartBD
import Derived.Test.YtekocmdfaaoggaaGreatDoorTartAV
import Derived.Test.YtekocmdfaaoggaaGreatDoorTartAP
import Derived.Test.YtekocmdfaaoggaaGreatDoorTartAB
import Derived.Test.YtekocmdfaaoggaaGreatDoorTartAN
namespace Go.Proofs.YtekocmdfaaoggaaGreatDoor
open Go.RowKit
theorem jev {w:World} {base base' te sz n:Nat} {v:Value} {cs:List Value} (h:w.ownsRow base te sz v n cs) (hb:base'≤base):w.ownsRow base' te sz v n cs:=by
 obtain ⟨h1,h2 | ⟨g,cap,cur,e1,e2,e3⟩⟩:=h
 ·exact ⟨h1,.inl h2⟩
 ·exact ⟨h1,.inr ⟨g,cap,cur,e1,Nat.le_trans hb e2,e3⟩⟩
end Go.Proofs.YtekocmdfaaoggaaGreatDoor
namespace Go.Proofs.YtekocmdfaaoggaaGreatDoor
open Go.RowKit
def doR (r:R (Int×List Int)) (M:List Int→R (List Int)):R (Int×List Int×List Int):=match r with
 | .ok (ty,l)=>(M l).map fun zs=>(ty,l,zs)
 | .error c=>.error c
def DoQ (w:World) (r:R (Int×List Int×List Int)) (e:Ending) (w':World):Prop:=w.grownBy w' none∧match r with
 | .ok (ty,l,zs)=>∃ t:Ten,t.ty=ty∧e=.returned (.tuple #[jqF t,.int .i64 0])∧Owns w' w.heap.size t.dv.v l∧jaT w' w.heap.size t.tv.v zs
 | .error c=>e=.returned (.tuple #[.agg #[.int .i64 0,.slice none 0 0,.slice none 0 0],.int .i64 c])
theorem jm8 {w w':World} {r:R (Int×List Int×List Int)} {c:Int} (h:r=.error c) (hg:w.grownBy w' none):DoQ w r (.returned (.tuple #[.agg #[.int .i64 0,.slice none 0 0,.slice none 0 0],.int .i64 c])) w':=by rw [h];exact ⟨hg,rfl⟩
theorem jrE {w w':World} {r:R (Int×List Int×List Int)} {ty:Int} {l zs:List Int} {d t:Sl} (h:r=.ok (ty,l,zs)) (hg:w.grownBy w' none) (hd:Owns w' w.heap.size d.v l) (ht:jaT w' w.heap.size t.v zs):DoQ w r (.returned (.tuple #[.agg #[.int .i64 ty,.slice d.a d.n d.c,.slice t.a t.n t.c],.int .i64 0])) w':=by rw [h];exact ⟨hg,⟨ty,d,t⟩,rfl,rfl,hd,ht⟩
theorem jd3 {fn : Func} {p u : Tmp} (h : fn.results = #[.cell p 32, .tmp u]) (tmps : Array Value) (w : World) (B : Nat) (hp : tmps.getD p undef = .pointer (some ⟨B, 0, none⟩)) {a0 a1 a2 : Value}
    (hb:w.heap[B]?=some (.cells #[a0,a1,a2] 32 (0,0))):(results fn tmps).run Tryz.prog w=.ok (.tuple #[.agg #[a0,a1,a2],tmps.getD u undef]) w:=by
     have hl:=run_loadVar_row (P:=Tryz.prog) w B _ 32 #[a0,a1,a2] (0,0) _ hb Tryz.underlying32 rfl (by rw [jig];rfl);rw [results_cell_tmp h,hp];simp [asAddr,hl,Result.andThen]
theorem jjx {w:World} {base te sz n:Nat} {v:Value} {cs:List Value} (h:w.ownsRow base te sz v n cs) {B:Nat} (hB:B<base):v.ownBlock=none∨v.ownBlock≠some B:=by
 rcases h.2 with ⟨e,-⟩ | ⟨g,cap,cur,e,hg,-⟩
 ·exact .inl (by rw [e];rfl)
 ·exact .inr (by rw [e];simp [Value.ownBlock];omega)
end Go.Proofs.YtekocmdfaaoggaaGreatDoor
namespace Go.Proofs.YtekocmdfaaoggaaGreatDoor
open Go.RowKit
structure ShpM (x y:List Int) (A:List Int) (a k b:Nat):Prop where
 ex:x=A++[(a:Int),(k:Int)]
 ey:y=A++[(k:Int),(b:Int)]
 few:A.length≤1
 cx:jbt x=0
 cy:jbt y=0
 cz:jbt (A++[(a:Int),(b:Int)])=0
theorem ShpM.len {x y A:List Int} {a k b:Nat} (h:ShpM x y A a k b):x.length=A.length+2∧y.length=A.length+2:=by
 rw [h.ex,h.ey];simp
end Go.Proofs.YtekocmdfaaoggaaGreatDoor
namespace Go.Proofs.YtekocmdfaaoggaaGreatDoor
open Go.RowKit
theorem jdG {α:Type} {w w':World} {r:R α} {Q Q':α→Value→World→Prop} {e:Ending} (h:jaF w r Q e w') (hq:∀ a v,r=.ok a→Q a v w'→Q' a v w'):jaF w r Q' e w':=by
 cases r with
 | error c=>exact h
 | ok a =>
  obtain ⟨hg,v,he,hv⟩:=h;exact ⟨hg,v,he,hq a v rfl hv⟩
theorem jqV (w:World) (op out:ByteArray) (iv:Sl) (ins:List ByteArray) (hi:jdK w iv.v ins):NodeIn w ⟨op,⟨#[]⟩,iv,out,jmC⟩ ins [] [] :=
 ⟨hi,ja5.isL (te:=40) (base:=0) jcz (ja5.nil ..) (by simp),(fun j a h=>by simp at h),by simp,(fun a h=>by cases h)⟩
theorem jqW (w:World) (op out:ByteArray) (iv:Sl):NodeOk w ⟨op,⟨#[]⟩,iv,out,jmC⟩ ⟨op,[],[]⟩ :=
 ⟨rfl,ja5.isL (te:=40) (base:=0) jcz (ja5.nil ..) (by simp),(fun j a h=>by simp at h),(fun a h=>by cases h)⟩
theorem ji4 {α β γ:Type} (r:R α) (f:α→R β) (g:β→R γ):(r.bind f).bind g=r.bind fun a=>(f a).bind g:=by cases r <;> rfl
theorem jm9 {t:Int} (h:jfx t=.ok ()):jan t=true:=by
 unfold jfx at h
 by_cases hb:jan t=true
 ·exact hb
 ·rw [if_neg hb] at h
  cases h
theorem jaK {α β:Type} {r:R α} {f:α→R β} {b:β} (h:r.bind f=.ok b):∃ a,r=.ok a∧f a=.ok b:=by
 cases r with
 | error c=>cases h
 | ok a=>exact ⟨a,rfl,h⟩
theorem jg5 {x:List Int} {n:Int} (h:jaS x=.ok n):jbt x=0:=by
 unfold jaS at h
 split at h
 ·assumption
 ·cases h
end Go.Proofs.YtekocmdfaaoggaaGreatDoor
namespace Go.Proofs.YtekocmdfaaoggaaGreatDoor
open Go.RowKit
def Nz {α:Type} (r:R α):Prop:=∀ c,r=.error c→c≠0
theorem Nz.bind {α β:Type} {r:R α} {f:α→R β} (h:Nz r) (k:∀ a,r=.ok a→Nz (f a)):Nz (r.bind f):=by
 cases r with
 | error c=>intro d hd;exact h d (by cases hd;rfl)
 | ok a=>exact k a rfl
theorem jrF {α:Type} (a:α):Nz (Except.ok a:R α):=fun c h=>by cases h
theorem nz_typ (t:Int):Nz (jfx t):=by
 intro c h;unfold jfx at h
 split at h
 ·cases h
 ·cases h;omega
theorem nz_must (b:Bool):Nz (jal b):=by
 intro c h;unfold jal at h
 split at h
 ·cases h
 ·cases h;omega
theorem nz_count (x:List Int):Nz (jaS x):=by
 intro c h;unfold jaS at h
 split at h
 ·cases h
 ·rename_i h1;cases h;exact h1
theorem jrG (x y:List Int):Nz (jaM x y):=by
 intro c h;unfold jaM at h
 split at h
 ·cases h
 ·rename_i h1;cases h;exact h1
theorem nz_same (t0 t1:Int):Nz (ja0 [t0,t1]):=by
 intro c h;simp only [ja0] at h
 split at h
 ·cases h
 ·cases h;omega
theorem jna {ps:List (Ten×Tq)} {r:R (Int×List Int)} (h:Nz r):Nz (jcQ ps r):=by
 unfold jcQ
 split
 ·exact h
 ·intro c hc;cases hc;omega
theorem jo8 {ps:List (Ten×Tq)} {r:R (Int×List Int)} {a:Int×List Int} (h:jcQ ps r=.ok a):ps.all okT=true∧r=.ok a:=by
 unfold jcQ at h
 split at h
 ·rename_i h1;exact ⟨h1,h⟩
 ·cases h
theorem jem {b:Bool} {a:Unit} (h:jal b=.ok a):b=true:=by
 unfold jal at h
 split at h
 ·assumption
 ·cases h
theorem jrH {ty:Int} {x xs:List Int} (h:pbE ty x xs=0):jbt x=0∧(xs.length:Int)=jbe x:=by
 unfold pbE at h
 split at h
 ·omega
 ·split at h
  ·rename_i h1;exact absurd h h1
  ·rename_i h1;have h1':jbt x=0:=by omega
   split at h
   ·omega
   ·rename_i h2;refine ⟨h1',?_⟩;have:(xs.length:Int)=cnt x:=by omega
    rw [this,cnt,if_pos h1']
def tq (t:Int) (x xs:List Int):Ten×Tq:=(⟨t,jmC,jmC⟩,(x,xs))
end Go.Proofs.YtekocmdfaaoggaaGreatDoor
namespace Go.Proofs.YtekocmdfaaoggaaGreatDoor
open Go.RowKit
theorem jrI {v0:Val} {x:List Int} (h:jei [(v0,x)]=.ok ()):(∀ s∈jaE [(v0,x)],jan s=true)∧jbt x=0:=by
 simp only [jei] at h;obtain ⟨_,h1,h⟩:=jaK h;obtain ⟨_,h2,h⟩:=jaK h;refine ⟨fun s hs=>?_,jg5 h2⟩;simp only [jaE,List.map_cons,List.map_nil,List.mem_cons,List.not_mem_nil,or_false] at hs;subst hs;exact jm9 h1
theorem jjy {vs:List (Val×List Int)} {t0:Int} {x:List Int} (h1:vs.map (·.1.ty)=[t0]) (h2:vs.map (·.2)=[x]):∃ v0,vs=[(v0,x)]∧v0.ty=t0:=by
 match vs,h1,h2 with
 | [(v0,a)],h1,h2 =>
  simp only [List.map_cons,List.map_nil,List.cons.injEq,and_true] at h1 h2;subst h2;exact ⟨v0,rfl,h1⟩
theorem jqX {t c:Int} (h:jfx t=.error c):c≠0:=by
 unfold jfx at h
 split at h
 ·cases h
 ·cases h;decide
theorem jnb {x:List Int} {c:Int} (h:jaS x=.error c):c≠0:=by
 unfold jaS at h
 split at h
 ·cases h
 ·rename_i h1
  cases h
  exact h1
end Go.Proofs.YtekocmdfaaoggaaGreatDoor
namespace Go.Proofs.YtekocmdfaaoggaaGreatDoor
open Go.RowKit
theorem jdm {x:World} {i:Nat} {o:Obj} (p:Obj) (h:x.heap[i]?=some o):(x.alloc p).heap[i]?=some o:=((jab x p).block i (Array.getElem?_eq_some_iff.1 h).1 (by simp)).trans h
theorem jcE {x:World} {i:Nat} (p:Obj) (h:x.heap.size=i):(x.alloc p).heap[i]?=some p∧(x.alloc p).heap.size=i+1:=by
 subst h;exact ⟨heap_alloc_new x p,by simp⟩
theorem jcg {w:World} {B te:Nat} {zs:List Int} (h:w.heap[B]?=some (.cells (zs.map (Value.int .i64)).toArray te (0,0))) (hl:zs.length≤1000) (hz:∀ z∈zs,-9223372036854775808≤z∧z≤9223372036854775807):jak w (.slice (some ⟨B,0,none⟩) zs.length zs.length) zs:=by
 refine ⟨_,_,rfl,Nat.le_refl _,by omega,by omega,(fun h=>by cases h),fun _=>⟨B,0,rfl,fun t ht=>?_⟩,hz⟩;rw [Nat.zero_add,cell_of_row _ _ t _ _ (0,0) h];simp [List.getD,ht]
theorem jo9 {w:World} {B:Nat} {cur:Array Value} {ps:List (Ten×Tq)} (h:w.heap[B]?=some (.cells cur 32 (0,0))) (hc:cur.toList=(ps.map (·.1)).flatMap jhA) (hs:cur.size=ps.length*3) (hl:ps.length≤1000) (hh:∀ p∈ps,jak w p.1.dv.v p.2.1∧jak w p.1.tv.v p.2.2):TensIn w (.slice (some ⟨B,0,none⟩) ps.length ps.length) ps:=by
 refine ⟨?_,hh⟩;have e:ps.length=(ps.map (·.1)).length:=by rw [List.length_map]
 rw [e];exact jgS (te:=32) (bytes:=56) jgf h hc (by rw [hs,e]) (by rw [← e];omega) (by rw [← e];omega)
theorem jnc {w:World} {B:Nat} (X:Ten) {x xs:List Int} (h:w.heap[B]?=some (.cells #[.int .i64 X.ty,.slice X.dv.a X.dv.n X.dv.c,.slice X.tv.a X.tv.n X.tv.c] 32 (0,0))) (h1:jak w X.dv.v x) (h2:jak w X.tv.v xs):TensIn w (.slice (some ⟨B,0,none⟩) 1 1) [(X,(x,xs))]:=by
 refine jo9 (ps:=[(X,(x,xs))]) h rfl rfl (by simp) fun p hp=>?_;simp only [List.mem_cons,List.not_mem_nil,or_false] at hp;subst hp;exact ⟨h1,h2⟩
end Go.Proofs.YtekocmdfaaoggaaGreatDoor
namespace Go.Proofs.YtekocmdfaaoggaaGreatDoor
open Go.RowKit
def inA (nm:ByteArray) (s:Sl):Atr:=⟨nm,7,0,0,⟨#[]⟩,0,jmC,jmC,s⟩
theorem jpM {w:World} {B:Nat} (h:w.heap[B]?=some (.cells #[.string ⟨#[120]⟩] 9 (0,0))):jdK w (.slice (some ⟨B,0,none⟩) 1 1) [⟨#[120]⟩]:=jgS (te:=9) (bytes:=16) (xs:=[⟨#[120]⟩]) jhm h rfl rfl (Nat.le_of_ble_eq_true rfl) (Nat.le_of_ble_eq_true rfl)
end Go.Proofs.YtekocmdfaaoggaaGreatDoor
