/- A part. -/
import Derived.Test.YtbgbpfbjeleooaaGreatRartAE
import Derived.Test.YtbgbpfbjeleooaaGreatRartAN
import Derived.Test.YtbgbpfbjeleooaaGreatRartAF
import Derived.WalkLawsBesides
import Derived.Deep.RegionHeld3
set_option maxHeartbeats 6400000
set_option maxRecDepth 100000
namespace Go.Proofs.YtbgbpfbjeleooaaGreat.Pd
open Go.RowKit
open Wr (Fld)
def jbU {α:Type} (w:World) (r:R α) (Q:α→Value→World→Prop) (e:Ending) (w':World):Prop:=w.grownBy w' none∧match r with
 | .error c=>e=.panicked [{ v:=.iface 28 (.int .i64 c),recovered:=false }]
 | .ok a=>∃ v,e=.returned v∧Q a v w'
theorem jad {α:Type} {w w':World} {r:R α} {Q:α→Value→World→Prop} {c:Int} (h:r=.error c) (hg:w.grownBy w' none):jbU w r Q (.panicked [{ v:=.iface 28 (.int .i64 c),recovered:=false }]) w':=by
 rw [h];exact ⟨hg,rfl⟩
theorem jaI {α:Type} {w w':World} {r:R α} {Q:α→Value→World→Prop} {a:α} {v:Value} (h:r=.ok a) (hg:w.grownBy w' none) (hq:Q a v w'):jbU w r Q (.returned v) w':=by
 rw [h];exact ⟨hg,v,rfl,hq⟩
theorem jgd (w:World):Calls Tryz.prog 79 #[.int .i64 0] w fun e w'=>e=.returned (.tuple #[])∧w=w':=by
 go_enter Tryz.func79,Tryz.ntmps79;go_wp2
 go_end0
 exact ⟨rfl,rfl⟩
theorem jei (c:Int) (hc:c≠0) (w:World):Calls Tryz.prog 79 #[.int .i64 c] w fun e w'=>e=.panicked [{ v:=.iface 28 (.int .i64 c),recovered:=false }]∧w=w':=by
 have h:(c != 0)=true:=by simpa using hc
 clear hc;go_enter Tryz.func79,Tryz.ntmps79;go_wp2;exact ⟨rfl,rfl,rfl⟩
theorem jaM (c:Int) (w:World):Calls Tryz.prog 53 #[.bool false,.int .i64 c] w fun e w'=>e=.returned (.tuple #[])∧w=w':=by
 go_enter Tryz.func53,Tryz.ntmps53;go_wp2
 go_end0
 exact ⟨rfl,rfl⟩
theorem jaD (c:Int) (w:World):Calls Tryz.prog 53 #[.bool true,.int .i64 c] w fun e w'=>e=.panicked [{ v:=.iface 28 (.int .i64 c),recovered:=false }]∧w=w':=by
 go_enter Tryz.func53,Tryz.ntmps53;go_wp2;exact ⟨rfl,rfl,rfl⟩
def zf:Fld:=⟨0,0,0,⟨#[]⟩⟩
def jdo (w:World) (lo B:Nat) (x:Fld) (l:List Fld):Prop :=
 ∃ s:Sl,w.heap[B]?=some (.cells #[.int .i64 x.num,.int .i64 x.kind,.int .u64 x.u,.string x.b,.slice s.a s.n s.c] 92 (0,0))∧IsL 40 4 Wr.fcells w s.v l∧(∀ b,s.v.ownBlock=some b→lo≤b∧b<B)∧lo≤B
theorem jdo.lt {w:World} {lo B:Nat} {x:Fld} {l:List Fld} (h:jdo w lo B x l):B<w.heap.size:=by
 obtain ⟨s,hb,-⟩:=h;exact (Array.getElem?_eq_some_iff.1 hb).1
theorem jdo.kept {w w':World} {lo B:Nat} {x:Fld} {l:List Fld} (h:jdo w lo B x l) {row:Option Nat} (hg:w.grownBy w' row) (hr:∀ g,row=some g→g<lo∨B<g):jdo w' lo B x l:=by
 have hl:=h.lt;obtain ⟨s,hb,hs,hlo,hB⟩:=h;refine ⟨s,(hg.block B hl (fun e=>?_)).trans hb,hs.kept fun b hb' e=>hg.block b hb' (fun e2=>?_),hlo,hB⟩
 ·have:=hr B e.symm;omega
 ·have:=hr b e2.symm;have:=hlo b e;omega
theorem jdo.more {w w':World} {lo B:Nat} {x:Fld} {l:List Fld} (h:jdo w lo B x l) (hg:w.grownBy w' none):jdo w' lo B x l:=h.kept hg (by simp)
theorem jdo.cells {w:World} {lo B:Nat} {x:Fld} {l:List Fld} (h:jdo w lo B x l):w.cell? ⟨B,0,none⟩=some (.int .i64 x.num)∧w.cell? ⟨B,1,none⟩=some (.int .i64 x.kind)∧w.cell? ⟨B,2,none⟩=some (.int .u64 x.u)∧w.cell? ⟨B,3,none⟩=some (.string x.b):=by
 obtain ⟨s,hb,-⟩:=h;exact ⟨(cell_of_row _ _ 0 _ _ (0,0) hb).trans rfl,(cell_of_row _ _ 1 _ _ (0,0) hb).trans rfl,(cell_of_row _ _ 2 _ _ (0,0) hb).trans rfl,(cell_of_row _ _ 3 _ _ (0,0) hb).trans rfl⟩
theorem jfX (B:Nat) (k:Int) (x:Fld) (w:World) (hk:w.cell? ⟨B,1,none⟩=some (.int .i64 x.kind)) :
    Calls Tryz.prog 80 #[.pointer (some ⟨B,0,none⟩),.int .i64 k] w (jbU w (jeu x k) fun _ v w'=>v=.tuple #[]∧w=w'):=by
     by_cases h:x.kind=k
     ·have e:(x.kind != k)=false:=by simp [h]
      have E:Hid (jeu x k=.ok ()):=by show jeu x k=.ok ();unfold jeu jal;rw [if_neg (by simp [h])]
      clear h;go_enter Tryz.func80,Tryz.ntmps80;go_wp2_with (go_at_call 53;refine (jaM _ _).mono ?_;rintro e w' ⟨rfl,rfl⟩)
      go_end0
      exact jaI E.out (jae _) ⟨rfl,rfl⟩
     ·have e:(x.kind != k)=true:=by simpa using h
      have E:Hid (jeu x k=.error 3):=by show jeu x k=.error 3;unfold jeu jal;rw [if_pos (by simpa using h)]
      clear h;go_enter Tryz.func80,Tryz.ntmps80;go_wp2_with (go_at_call 53;refine (jaD _ _).mono ?_;rintro e w' ⟨rfl,rfl⟩);exact ⟨rfl,jad E.out (jae _)⟩
theorem jb5 (x:Fld) (k:Int):jeu x k=.ok ()∨jeu x k=.error 3:=by
 unfold jeu jal
 split
 ·exact .inr rfl
 ·exact .inl rfl
theorem jaA (B:Nat) (x:Fld) (w:World) (hk:w.cell? ⟨B,1,none⟩=some (.int .i64 x.kind)) (hb:w.cell? ⟨B,3,none⟩=some (.string x.b)) :
    Calls Tryz.prog 52 #[.pointer (some ⟨B,0,none⟩)] w (jbU w (jbZ x) fun s v w'=>v=.string s∧w=w'):=by
     have M:=jac (jfX B 2 x w hk)
     rcases jb5 x 2 with h | h
     ·have E:Hid (jbZ x=.ok x.b):=by show jbZ x=_;unfold jbZ;rw [h];rfl
      rw [h] at M;clear h hk;go_enter Tryz.func52,Tryz.ntmps52;go_wp2_with fail;refine M.out.mono ?_;rintro e w' ⟨-,v,rfl,rfl,rfl⟩;go_wp2;go_ret;exact jaI E.out (jae _) ⟨rfl,rfl⟩
     ·have E:Hid (jbZ x=.error 3):=by show jbZ x=_;unfold jbZ;rw [h];rfl
      rw [h] at M;clear h hk;go_enter Tryz.func52,Tryz.ntmps52;go_wp2_with fail;refine M.out.mono ?_;rintro e w' ⟨hg,rfl⟩;exact ⟨rfl,jad E.out hg⟩
theorem jcW (B:Nat) (x:Fld) (w:World) (hk:w.cell? ⟨B,1,none⟩=some (.int .i64 x.kind)) (hb:w.cell? ⟨B,2,none⟩=some (.int .u64 x.u)) :
    Calls Tryz.prog 110 #[.pointer (some ⟨B,0,none⟩)] w (jbU w (jbP x) fun y v w'=>v=.int .i64 y∧w=w'):=by
     have M:=jac (jfX B 0 x w hk)
     rcases jb5 x 0 with h | h
     ·have E:Hid (jbP x=.ok (wrap64 x.u)):=by show jbP x=_;unfold jbP;rw [h];rfl
      rw [h] at M;clear h hk;go_enter Tryz.func110,Tryz.ntmps110;go_wp2_with fail;refine M.out.mono ?_;rintro e w' ⟨-,v,rfl,rfl,rfl⟩;go_wp2;go_ret;exact jaI E.out (jae _) ⟨rfl,rfl⟩
     ·have E:Hid (jbP x=.error 3):=by show jbP x=_;unfold jbP;rw [h];rfl
      rw [h] at M;clear h hk;go_enter Tryz.func110,Tryz.ntmps110;go_wp2_with fail;refine M.out.mono ?_;rintro e w' ⟨hg,rfl⟩;exact ⟨rfl,jad E.out hg⟩
theorem jgN (b:Int) (w:World):Calls Tryz.prog 155 #[.int .i64 b] w fun e w'=>e=.returned (.int .i64 (jbK b))∧w=w':=by
 have F:=jac (jeU 1 b w)
 cases h:chk 1 b with
 | true =>
  have E:Hid (jbK b=b):=by show jbK b=b;unfold jbK;rw [if_pos h]
  rw [h] at F;clear h;go_enter Tryz.func155,Tryz.ntmps155;go_wp2_with (go_at_call 45;refine F.out.mono ?_;rintro e w' ⟨rfl,rfl⟩);go_ret;exact ⟨by rw [E.out];rfl,rfl⟩
 | false =>
  have E:Hid (jbK b=2143289344):=by show jbK b=_;unfold jbK;rw [h];rfl
  rw [h] at F;clear h;go_enter Tryz.func155,Tryz.ntmps155;go_wp2_with (go_at_call 45;refine F.out.mono ?_;rintro e w' ⟨rfl,rfl⟩);go_ret;exact ⟨by rw [E.out];rfl,rfl⟩
theorem jhS (B:Nat) (x:Fld) (w:World) (hk:w.cell? ⟨B,1,none⟩=some (.int .i64 x.kind)) (hb:w.cell? ⟨B,2,none⟩=some (.int .u64 x.u)) :
    Calls Tryz.prog 135 #[.pointer (some ⟨B,0,none⟩)] w (jbU w (jcX x) fun y v w'=>v=.int .i64 y∧w=w'):=by
     have M:=jac (jfX B 5 x w hk)
     rcases jb5 x 5 with h | h
     ·have E:Hid (jcX x=.ok (jbK (wrap64 x.u))):=by show jcX x=_;unfold jcX;rw [h];rfl
      have N:=jac (jgN (wrap64 x.u) w);rw [h] at M;clear h hk;go_enter Tryz.func135,Tryz.ntmps135;go_wp2_with fail;refine M.out.mono ?_;rintro e w' ⟨-,v,rfl,rfl,rfl⟩;go_wp2_with fail;refine N.out.mono ?_;rintro e w' ⟨rfl,rfl⟩;go_wp2;go_ret;exact jaI E.out (jae _) ⟨rfl,rfl⟩
     ·have E:Hid (jcX x=.error 3):=by show jcX x=_;unfold jcX;rw [h];rfl
      rw [h] at M;clear h hk;go_enter Tryz.func135,Tryz.ntmps135;go_wp2_with fail;refine M.out.mono ?_;rintro e w' ⟨hg,rfl⟩;exact ⟨rfl,jad E.out hg⟩
theorem jdW (x:Int) (w:World) (hx : -9223372036854775808≤x∧x≤9223372036854775807):Calls Tryz.prog 109 #[.int .i64 x] w fun e w'=>e=.returned (.int .i64 x)∧w=w':=by
 have h1:min 9223372036854775807 x=x:=by omega
 have h2:max (-9223372036854775808) x=x:=by omega
 go_enter Tryz.func109,Tryz.ntmps109;go_wp2;go_ret;exact ⟨rfl,rfl⟩
theorem jhT (t:Int) (w:World):Calls Tryz.prog 157 #[.int .i64 t] w fun e w'=>e=.returned (.int .i64 (ja4 t:Nat))∧w=w':=by
 by_cases h1:t=1
 ·subst h1;go_enter Tryz.func157,Tryz.ntmps157;go_wp2;go_ret;exact ⟨rfl,rfl⟩
 ·by_cases h6:t=6
  ·subst h6;go_enter Tryz.func157,Tryz.ntmps157;go_wp2;go_ret;exact ⟨rfl,rfl⟩
  ·by_cases h7:t=7
   ·subst h7;go_enter Tryz.func157,Tryz.ntmps157;go_wp2;go_ret;exact ⟨rfl,rfl⟩
   ·have E:Hid (ja4 t=1):=by show ja4 t=1;simp [ja4,h1,h6,h7]
    have e1:(t==1)=false:=by simpa using h1
    have e6:(t==6)=false:=by simpa using h6
    have e7:(t==7)=false:=by simpa using h7
    clear h1 h6 h7;go_enter Tryz.func157,Tryz.ntmps157;go_wp2;go_ret;exact ⟨by rw [E.out];rfl,rfl⟩
theorem jiG (t u:Int) (w:World):Calls Tryz.prog 158 #[.int .i64 t,.int .u64 u] w fun e w'=>e=.returned (.int .i64 (jbQ t u))∧w=w':=by
 by_cases h1:t=1
 ·subst h1;have N:=jac (jgN (wrap64 u) w);have E:Hid (jbQ 1 u=jbK (wrap64 u)):=rfl;go_enter Tryz.func158,Tryz.ntmps158;go_wp2_with fail;refine N.out.mono ?_;rintro e w' ⟨rfl,rfl⟩;go_wp2;go_ret;exact ⟨rfl,rfl⟩
 ·by_cases h6:t=6
  ·subst h6;go_enter Tryz.func158,Tryz.ntmps158;go_wp2;go_ret;exact ⟨rfl,rfl⟩
  ·have E:Hid (jbQ t u=wrap64 u):=by show jbQ t u=_;simp [jbQ,h1,h6]
   have e1:(t==1)=false:=by simpa using h1
   have e6:(t==6)=false:=by simpa using h6
   clear h1 h6;go_enter Tryz.func158,Tryz.ntmps158;go_wp2;go_ret;exact ⟨by rw [E.out];rfl,rfl⟩
end Go.Proofs.YtbgbpfbjeleooaaGreat.Pd
namespace Go.Proofs.YtbgbpfbjeleooaaGreat.Pd
open Go.RowKit
open Wr (Fld)
theorem jbd (s:ByteArray):(∃ l,jaX s=.ok l)∨∃ c,jaX s=.error c∧c≠0:=by
 unfold jaX
 split
 ·exact .inr ⟨6,rfl,by decide⟩
 ·cases Wr.all (Wr.fd s) s.size with
  | none=>exact .inr ⟨3,rfl,by decide⟩
  | some l=>exact .inl ⟨l,rfl⟩
theorem jhf {α:Type} {item:Nat→Option (α×Nat)} (hi:∀ {p:Nat} {x:α} {q:Nat},item p=some (x,q)→p<q) {size:Nat} : ∀ (f p:Nat) {l:List α},Wr.allF item size f p=some l→l.length≤size - p
 | 0,p,l,h=>by cases h;simp
 | f+1,p,l,h=>by
  unfold Wr.allF at h
  split at h
  ·cases hx:item p with
   | none=>rw [hx] at h;cases h
   | some y =>
    obtain ⟨x,q⟩:=y;rw [hx] at h;simp only at h
    cases hm:Wr.allF item size f q with
    | none=>rw [hm] at h;cases h
    | some m =>
     rw [hm] at h
     cases h
     have:=jhf hi f q hm;have:=hi hx;simp;omega
  ·cases h;simp
theorem jbq {s:ByteArray} {l:List Fld} (h:jaX s=.ok l):l.length≤16777216:=by
 unfold jaX at h
 split at h
 ·cases h
 ·cases hm:Wr.all (Wr.fd s) s.size with
  | none=>rw [hm] at h;cases h
  | some m =>
   rw [hm] at h
   cases h
   have:=jhf (item:=Wr.fd s) (fun h=>(Wr.fd_spec h).1) s.size 0 hm;omega
theorem jjl {α:Type} {item:Nat→Option (α×Nat)} {P:α→Prop} (hi:∀ {p:Nat} {x:α} {q:Nat},item p=some (x,q)→P x) {size:Nat} : ∀ (f p:Nat) {l:List α},Wr.allF item size f p=some l→∀ x∈l,P x
 | 0,p,l,h=>by cases h;simp
 | f+1,p,l,h=>by
  unfold Wr.allF at h
  split at h
  ·cases hx:item p with
   | none=>rw [hx] at h;cases h
   | some y =>
    obtain ⟨x,q⟩:=y;rw [hx] at h;simp only at h
    cases hm:Wr.allF item size f q with
    | none=>rw [hm] at h;cases h
    | some m =>
     rw [hm] at h
     cases h
     intro z hz
     rcases List.mem_cons.1 hz with rfl | hz
     ·exact hi hx
     ·exact jjl hi f q hm z hz
  ·cases h;simp
theorem jdX {s:ByteArray} {l:List Fld} (h:jaX s=.ok l):∀ x∈l,x.b.size≤16777216:=by
 unfold jaX at h
 split at h
 ·cases h
 ·cases hm:Wr.all (Wr.fd s) s.size with
  | none=>rw [hm] at h;cases h
  | some m =>
   rw [hm] at h
   cases h
   refine jjl (item:=Wr.fd s) (fun {p x q} h=>?_) s.size 0 hm;have h2:=(Wr.fd_spec h)
   omega
theorem jjW (x:Fld):(Wr.fcells x).length=4:=rfl
theorem jcI (s:ByteArray) (w:World) (hs:s.size≤9223372036854775807) :
    Calls Tryz.prog 50 #[.string s] w (jbU w (jaX s) fun l v w'=>∃ B:Nat,v=.pointer (some ⟨B,0,none⟩)∧jdo w' w.heap.size B zf l):=by
     have F:=jac (Wr.fields_any s w hs)
     rcases jbd s with ⟨l,hl⟩ | ⟨c,hc,h0⟩
     ·have HL:=jac hl
      have E:Hid (∀ e w',Wr.FieldsT s w e w'→∃ v,e=.returned (.tuple #[v,.int .i64 0])∧w.grownBy w' none∧Wr.OwnsL 49 4 Wr.fcells w' w.heap.size v l):=by
       show ∀ e w',_;rintro e w' ⟨v,E,rfl,hg,h⟩;unfold jaX at hl
       rcases h with ⟨h1,xs,h2,rfl,h3⟩ | ⟨h1,h2,rfl,-⟩ | ⟨h1,rfl,-⟩
       ·rw [if_neg (by omega),h2] at hl
        cases hl
        exact ⟨v,rfl,hg,h3⟩
       ·rw [if_neg (by omega),h2] at hl
        cases hl
       ·rw [if_pos h1] at hl
        cases hl
      clear hl;go_enter Tryz.func50,Tryz.ntmps50;go_wp2_with fail;refine F.out.mono ?_;rintro e w1 hq;obtain ⟨v,rfl,hg,ho⟩:=E.out _ _ hq;have HO:=jac ho;have ho2:OwnsL 49 4 Wr.fcells w1 w.heap.size v l:=ho;obtain ⟨va,vc,rfl⟩:=ho2.form;have IL:=jac (ho2.isL (bytes:=40) jjW (by have:=jbq HL.out;omega));have LT:=jac (World.ownsRow.lt ho2);have sz:=hg.size;clear hq ho ho2;go_wp2_with (go_at_call 79;refine (jgd _).mono ?_;rintro e w' ⟨rfl,rfl⟩);go_ret;have hb:=heap_alloc_new w1 (.cells #[.int .i64 0,.int .i64 0,.int .u64 0,.string ⟨#[]⟩,.slice va l.length vc] 92);refine jaI HL.out (jaa hg (jab _ _)) ⟨w1.heap.size,rfl,⟨va,l.length,vc⟩,hb,IL.out.more (jab _ _),fun b e=>?_,sz⟩;have:=LT.out b e;omega
     ·have HC:=jac hc
      have E:Hid (∀ e w',Wr.FieldsT s w e w'→∃ v,e=.returned (.tuple #[v,.int .i64 c])∧w.grownBy w' none):=by
       show ∀ e w',_;rintro e w' ⟨v,E,rfl,hg,h⟩;unfold jaX at hc
       rcases h with ⟨h1,xs,h2,rfl,h3⟩ | ⟨h1,h2,rfl,-⟩ | ⟨h1,rfl,-⟩
       ·rw [if_neg (by omega),h2] at hc
        cases hc
       ·rw [if_neg (by omega),h2] at hc
        cases hc
        exact ⟨v,rfl,hg⟩
       ·rw [if_pos h1] at hc
        cases hc
        exact ⟨v,rfl,hg⟩
      have H0:=jac h0;clear hc h0;go_enter Tryz.func50,Tryz.ntmps50;go_wp2_with fail;refine F.out.mono ?_;rintro e w1 hq;obtain ⟨v,rfl,hg⟩:=E.out _ _ hq;clear hq;go_wp2_with (go_at_call 79;refine (jei _ H0.out _).mono ?_;rintro e w' ⟨rfl,rfl⟩);exact ⟨rfl,jad HC.out hg⟩
end Go.Proofs.YtbgbpfbjeleooaaGreat.Pd
namespace Go.Proofs.YtbgbpfbjeleooaaGreat.Pd
open Go.RowKit
open Wr (Fld)
theorem jnp {w3:World} {B:Nat} {z0 z1 z2 z3 z4:Value} {t:TypeId} (a b c d e:Value) (hb:w3.heap[B]?=some (.cells #[z0,z1,z2,z3,z4] t (0,0))) :
    (((((w3.setCell ⟨B,0,none⟩ a).setCell ⟨B,1,none⟩ b).setCell ⟨B,2,none⟩ c).setCell ⟨B,3,none⟩ d).setCell ⟨B,4,none⟩ e).heap[B]?=some (.cells #[a,b,c,d,e] t (0,0))∧w3.grownBy (((((w3.setCell ⟨B,0,none⟩ a).setCell ⟨B,1,none⟩ b).setCell ⟨B,2,none⟩ c).setCell ⟨B,3,none⟩ d).setCell ⟨B,4,none⟩ e) (some B):=by
     have h1:=heap_setCell_same w3 B 0 _ _ a hb;have h2:=heap_setCell_same _ B 1 _ _ b h1;have h3:=heap_setCell_same _ B 2 _ _ c h2;have h4:=heap_setCell_same _ B 3 _ _ d h3;have h5:=heap_setCell_same _ B 4 _ _ e h4
     have g:∀ (x:World) (j:Nat) (v:Value),x.grownBy (x.setCell ⟨B,j,none⟩ v) (some B):=fun x j v =>
      ⟨rfl,rfl,rfl,by simp [World.setCell],fun k _ hk=>Below.heap_setCell _ _ _ _ (fun e=>hk (by rw [e]))⟩
     exact ⟨by simpa using h5,Wr.row_trans (Wr.row_trans (Wr.row_trans (Wr.row_trans (g w3 0 a) (g _ 1 b)) (g _ 2 c)) (g _ 3 d)) (g _ 4 e)⟩
theorem jl5 {α:Type} {bytes size:Nat} {f:α→List Value} {w:World} {b off c:Nat} {y:α} {l:List α} (h:IsL bytes size f w (.slice (some ⟨b,off,none⟩) (l.length+1) c) (y::l)):IsL bytes size f w (.slice (if c=1 then some ⟨b,off,none⟩ else some ⟨b,off+size,none⟩) l.length (c - 1)) l:=by
 obtain ⟨ao,cap,e,h1,h2,h3,h4,h5⟩:=h
 cases e
 simp only [List.length_cons] at h1 h3 h5;refine ⟨_,_,rfl,by omega,by omega,?_,fun e=>?_,fun hl=>?_⟩
 ·have:l.length*bytes≤(l.length+1)*bytes:=Nat.mul_le_mul_right _ (by omega);omega
 ·split at e <;> cases e
 ·rw [if_neg (by omega)];refine ⟨b,off+size,rfl,fun k hk j hj=>?_⟩;obtain ⟨b',off',e,hc⟩:=h5 (by omega)
  cases e
  have:=hc (k+1) (by simpa using hk) j hj;rw [Nat.add_mul,Nat.one_mul] at this;simp only [List.getElem_cons_succ] at this;rw [show off+size+k*size+j=off+(k*size+size)+j from by omega];exact this
theorem jbX (lo B:Nat) (x:Fld) (w:World) (h:jdo w lo B x []) :
    Calls Tryz.prog 51 #[.pointer (some ⟨B,0,none⟩)] w fun e w'=>e=.returned (.bool false)∧w=w':=by
     obtain ⟨⟨sa,sn,sc⟩,hb,hs,-⟩:=h;obtain ⟨ao,cap,e,-⟩:=hs.form;simp only [Sl.v,Value.slice.injEq,List.length_nil] at e;obtain ⟨rfl,rfl,rfl⟩:=e;have c4:w.cell? ⟨B,4,none⟩=some (.slice sa 0 sc):=(cell_of_row _ _ 4 _ _ (0,0) hb).trans rfl;clear hb hs;go_enter Tryz.func51,Tryz.ntmps51;go_wp2;go_ret;exact ⟨rfl,rfl⟩
theorem jbY (lo B:Nat) (x y:Fld) (l:List Fld) (w:World) (h:jdo w lo B x (y::l)) :
    Calls Tryz.prog 51 #[.pointer (some ⟨B,0,none⟩)] w fun e w'=>e=.returned (.bool true)∧jdo w' lo B y l∧w.grownBy w' (some B):=by
     obtain ⟨⟨sa,sn,sc⟩,hb,hs,hlo,hB⟩:=h;obtain ⟨ao,cap,e,f1,f2,f3⟩:=hs.form;simp only [Sl.v,Value.slice.injEq,List.length_cons] at e;obtain ⟨rfl,rfl,rfl⟩:=e;obtain ⟨b,off,rfl⟩:=hs.addr (k:=0) (by simp);have HS:=jac hs;have a0:=hs.at 0 (by simp) 0 (by omega);have a1:=hs.at 0 (by simp) 1 (by omega);have a2:=hs.at 0 (by simp) 2 (by omega);have a3:=hs.at 0 (by simp) 3 (by omega);simp only [List.getElem_cons_zero,Nat.zero_mul,Nat.add_zero,Wr.fcells,List.getElem?_cons_zero,List.getElem?_cons_succ] at a0 a1 a2 a3;have HLO:Hid (∀ b',(Value.slice (some ⟨b,off,none⟩) (l.length+1) sc).ownBlock=some b'→lo≤b'∧b'<B):=hlo;have c4:w.cell? ⟨B,4,none⟩=some (.slice (some ⟨b,off,none⟩) (l.length+1) sc):=(cell_of_row _ _ 4 _ _ (0,0) hb).trans rfl;have fr0:=frozen_of_row w B 0 _ _ hb;have fr1:=frozen_of_row w B 1 _ _ hb;have fr2:=frozen_of_row w B 2 _ _ hb;have fr3:=frozen_of_row w B 3 _ _ hb;have fr4:=frozen_of_row w B 4 _ _ hb;have k0:=(cell_of_row _ _ 0 _ _ (0,0) hb).trans rfl;have k1:=(cell_of_row _ _ 1 _ _ (0,0) hb).trans rfl;have k2:=(cell_of_row _ _ 2 _ _ (0,0) hb).trans rfl;have k3:=(cell_of_row _ _ 3 _ _ (0,0) hb).trans rfl;have hne:b≠B:=by have:=HLO.out b rfl;omega
     have hne2:B≠b:=fun e=>hne e.symm;have i0:(0:Int)<((l.length+1:Nat):Int):=by omega
     have i1:(1:Int)≤((l.length+1:Nat):Int):=by omega
     have i2:0<l.length+1:=by omega
     have i3:1≤l.length+1:=by omega
     have b0:(((l.length+1:Nat):Int)==0)=false:=by simp;omega
     clear hs hlo;go_enter Tryz.func51,Tryz.ntmps51;go_wp2_with fail;go_region;have TL:=jac (jl5 HS.out)
     have OB:Hid (∀ b',(Value.slice (if sc=1 then some ⟨b,off,none⟩ else some ⟨b,off+4,none⟩) l.length (sc - 1)).ownBlock=some b'→b'=b):=fun b' e=>by
      split at e <;> (simp only [Value.ownBlock,Option.some.injEq] at e;exact e.symm)
     obtain ⟨p,hp⟩ : ∃ p:Option Addr,p=(if sc=1 then some ⟨b,off,none⟩ else some ⟨b,off+4,none⟩):=⟨_,rfl⟩
     rw [← hp] at TL OB ⊢;obtain ⟨hX,gX⟩:=jnp (.int .i64 y.num) (.int .i64 y.kind) (.int .u64 y.u) (.string y.b) (.slice p l.length (sc - 1)) hb;obtain ⟨W,hW⟩ : ∃ W,W=((((w.setCell ⟨B,0,none⟩ (.int .i64 y.num)).setCell ⟨B,1,none⟩ (.int .i64 y.kind)).setCell ⟨B,2,none⟩ (.int .u64 y.u)).setCell ⟨B,3,none⟩ (.string y.b)).setCell ⟨B,4,none⟩ (.slice p l.length (sc - 1)):=⟨_,rfl⟩
     rw [← hW] at hX gX ⊢;have HX:=jac hX;have GX:=jac (Wr.row_drew gX);clear hp hW hX gX hb c4 fr0 fr1 fr2 fr3 fr4 k0 k1 k2 k3 a0 a1 a2 a3 b0;go_wp2;go_ret;refine ⟨rfl,⟨⟨p,l.length,sc - 1⟩,HX.out,TL.out.kept fun b' hb' e=>GX.out.block b' hb' (fun e2=>?_),fun b' e=>?_,hB⟩,GX.out⟩
     ·have:=OB.out b' e
      cases e2
      omega
     ·have:=OB.out b' e;subst this;exact HLO.out b' rfl
end Go.Proofs.YtbgbpfbjeleooaaGreat.Pd
namespace Go.Proofs.YtbgbpfbjeleooaaGreat.Pd
open Go.RowKit
open Wr (Fld)
def jb0 (s:Int×Bool×Bool) (x:Fld):R (Int×Bool×Bool) :=
 if x.num=1 then (jbP x).bind fun d=>.ok (d,true,s.2.2) else if x.num=2 then (jeu x 2).bind fun _=>.ok (s.1,s.2.1,true) else .ok s
def jbu (s:ByteArray):R Int:=(jaX s).bind fun l=>(jaF jb0 (0,false,false) l).bind fun t=>(jal (!t.2.1||t.2.2) 5).bind fun _=>.ok t.1
theorem jay {σ:Type} {f:σ→Fld→R σ} {a:σ} {x:Fld} {l:List Fld} {b:σ} (h:f a x=.ok b):jaF f a (x::l)=jaF f b l:=by
 show (f a x).bind _=_;rw [h]
 rfl
theorem jaJ {σ:Type} {f:σ→Fld→R σ} {a:σ} {x:Fld} {l:List Fld} {c:Int} (h:f a x=.error c):jaF f a (x::l)=.error c:=by
 show (f a x).bind _=_;rw [h]
 rfl
theorem jcq (x:Fld):(∃ y,jbP x=.ok y ∧ -9223372036854775808≤y∧y≤9223372036854775807)∨jbP x=.error 3:=by
 unfold jbP
 rcases jb5 x 0 with h | h
 ·rw [h];exact .inl ⟨_,rfl,jcV _⟩
 ·rw [h];exact .inr rfl
theorem jaU (x:Fld):(∃ y,jbZ x=.ok y)∨jbZ x=.error 3:=by
 unfold jbZ
 rcases jb5 x 2 with h | h
 ·rw [h];exact .inl ⟨_,rfl⟩
 ·rw [h];exact .inr rfl
theorem jiH (s:ByteArray) (w:World) (hs:s.size≤9223372036854775807) :
    Calls Tryz.prog 164 #[.string s] w (jbU w (jbu s) fun d v _=>v=.int .i64 d ∧ -9223372036854775808≤d∧d≤9223372036854775807):=by
     have O:=jac (jcI s w hs)
     rcases jbd s with ⟨l,hl⟩ | ⟨c,hc,-⟩
     ·rw [hl] at O;have FL:=jac hl;have E0:Hid (jbu s=(jaF jb0 (0,false,false) l).bind fun t=>(jal (!t.2.1||t.2.2) 5).bind fun _=>.ok t.1):=by show _=_;unfold jbu;rw [hl];rfl
      clear hl;go_enter Tryz.func164,Tryz.ntmps164;go_wp2_with fail;refine O.out.mono ?_;rintro e w1 ⟨hg1,v,rfl,B,rfl,hcur⟩;go_wp2_with fail;have lo:=hg1.size;go_loopg [3,4,5] l.length (fun gh dim nu na wr=>∃ (x:Fld) (r:List Fld) (st:Int×Bool×Bool),gh=r.length∧dim=.int .i64 st.1∧nu=.bool st.2.1∧na=.bool st.2.2∧jdo wr w.heap.size B x r∧w.grownBy wr none∧jaF jb0 (0,false,false) l=jaF jb0 st r∧(-9223372036854775808≤st.1∧st.1≤9223372036854775807))
      case atStart=>exact ⟨_,l,(0,false,false),rfl,rfl,rfl,rfl,hcur,hg1,rfl,by decide⟩
      case round =>
       obtain ⟨x,r,⟨dim,nu,na⟩,rfl,rfl,rfl,rfl,hc,hg,hf,hi0⟩:=hrel;have HF:=jac hf;have HC:=jac hc;have HG:=jac hg;have HB:Hid (w.heap.size≤B):=by obtain ⟨_,_,_,_,h⟩:=hc;exact h
       have I0:=jac hi0;clear hf hc hg hcur hg1 hi0
       skip
       cases r with
       | nil =>
        have NX:=jac (jbX _ B x wr HC.out);have E1:Hid (jbu s=(jal (!nu||na) 5).bind fun _=>.ok dim):=by show _=_;rw [E0.out,HF.out];rfl
        by_cases hb:nu=true∧na=false
        ·obtain ⟨rfl,rfl⟩:=hb;have E2:Hid (jbu s=.ok dim):=by show _=_;rw [E1.out];rfl
         go_wp2_with (first | (go_at_call 51;refine NX.out.mono ?_;rintro e w' ⟨rfl,rfl⟩) | (go_at_call 53;refine (jaM _ _).mono ?_;rintro e w' ⟨rfl,rfl⟩) | (go_at_call 109;refine (jdW _ _ I0.out).mono ?_;rintro e w' ⟨rfl,rfl⟩));go_ret;exact jaI E2.out HG.out ⟨rfl,I0.out⟩
        ·have E2:Hid (jbu s=.error 5):=by show _=_;rw [E1.out];revert hb;cases nu <;> cases na <;> simp [jal] <;> rfl
         cases nu <;> cases na
         ·clear hb;go_wp2_with (first | (go_at_call 51;refine NX.out.mono ?_;rintro e w' ⟨rfl,rfl⟩) | (go_at_call 53;refine (jaD _ _).mono ?_;rintro e w' ⟨rfl,rfl⟩));exact ⟨rfl,jad E2.out HG.out⟩
         ·clear hb;go_wp2_with (first | (go_at_call 51;refine NX.out.mono ?_;rintro e w' ⟨rfl,rfl⟩) | (go_at_call 53;refine (jaD _ _).mono ?_;rintro e w' ⟨rfl,rfl⟩));exact ⟨rfl,jad E2.out HG.out⟩
         ·exact absurd ⟨rfl,rfl⟩ hb
         ·clear hb;go_wp2_with (first | (go_at_call 51;refine NX.out.mono ?_;rintro e w' ⟨rfl,rfl⟩) | (go_at_call 53;refine (jaD _ _).mono ?_;rintro e w' ⟨rfl,rfl⟩));exact ⟨rfl,jad E2.out HG.out⟩
       | cons y r =>
        have NX:=jac (jbY _ B x y r wr HC.out);go_wp2_with fail;refine NX.out.mono ?_;rintro e w2 ⟨rfl,hc2,hg2⟩;have HC2:=jac hc2;have HG2:=jac (jah HG.out hg2 (fun g e=>by cases e;exact HB.out));obtain ⟨a0,a1,a2,a3⟩:=hc2.cells;have HGB:=jac hg2;clear hc2 hg2 NX HC HG
        by_cases h1:y.num=1
        ·have b1:(y.num==1)=true:=by simp [h1]
         have H1:=jac h1;clear h1;go_wp2_with fail;have TX:=jac (jcW B y w2 a1 a2);clear a0 a1 a2 a3
         rcases jcq y with ⟨q,hx,hq⟩ | hx
         ·rw [hx] at TX;have ES:=jac (HF.out.trans (jay (f:=jb0) (b:=(q,true,na)) (by unfold jb0;rw [if_pos H1.out];rw [hx];rfl)));clear hx;refine TX.out.mono ?_;rintro e w3 ⟨hg3,v,rfl,rfl,rfl⟩
          skip
          go_wp2_with fail;go_roundg r.length
          case measure=>simp
          case rel=>exact ⟨y,r,(q,true,na),rfl,rfl,rfl,rfl,HC2.out,HG2.out,ES.out,hq⟩
         ·rw [hx] at TX;have E:Hid (jbu s=.error 3):=by show _=_;rw [E0.out,HF.out,jaJ (f:=jb0) (c:=3) (by unfold jb0;rw [if_pos H1.out];rw [hx];rfl)];rfl
          clear hx;refine TX.out.mono ?_;rintro e w3 ⟨hg3,rfl⟩;exact ⟨rfl,jad E.out (jaa HG2.out hg3)⟩
        ·have b1:(y.num==1)=false:=by simpa using h1
         have H1:=jac h1;clear h1
         by_cases h2:y.num=2
         ·have b2:(y.num==2)=true:=by simp [h2]
          have H2:=jac h2;clear h2;go_wp2_with fail;have TX:=jac (jfX B 2 y w2 a1);clear a0 a1 a2 a3
          rcases jb5 y 2 with hx | hx
          ·rw [hx] at TX;have ES:=jac (HF.out.trans (jay (f:=jb0) (b:=(dim,nu,true)) (by unfold jb0;rw [if_neg H1.out];rw [if_pos H2.out];rw [hx];rfl)));clear hx;refine TX.out.mono ?_;rintro e w3 ⟨hg3,v,rfl,rfl,rfl⟩
           skip
           go_wp2_with fail;go_roundg r.length
           case measure=>simp
           case rel=>exact ⟨y,r,(dim,nu,true),rfl,rfl,rfl,rfl,HC2.out,HG2.out,ES.out,I0.out⟩
          ·rw [hx] at TX;have E:Hid (jbu s=.error 3):=by show _=_;rw [E0.out,HF.out,jaJ (f:=jb0) (c:=3) (by unfold jb0;rw [if_neg H1.out];rw [if_pos H2.out];rw [hx];rfl)];rfl
           clear hx;refine TX.out.mono ?_;rintro e w3 ⟨hg3,rfl⟩;exact ⟨rfl,jad E.out (jaa HG2.out hg3)⟩
         ·have b2:(y.num==2)=false:=by simpa using h2
          have H2:=jac h2;clear h2;have ES:=jac (HF.out.trans (jay (f:=jb0) (b:=(dim,nu,na)) (by unfold jb0;rw [if_neg H1.out];rw [if_neg H2.out])));clear a1 a2 a3;go_wp2_with fail;clear a0;go_roundg r.length
          case measure=>simp
          case rel=>exact ⟨y,r,(dim,nu,na),rfl,rfl,rfl,rfl,HC2.out,HG2.out,ES.out,I0.out⟩
     ·rw [hc] at O;have E:Hid (jbu s=.error c):=by show _=_;unfold jbu;rw [hc];rfl
      clear hc;go_enter Tryz.func164,Tryz.ntmps164;go_wp2_with fail;refine O.out.mono ?_;rintro e w1 ⟨hg1,rfl⟩;exact ⟨rfl,jad E.out hg1⟩
end Go.Proofs.YtbgbpfbjeleooaaGreat.Pd
