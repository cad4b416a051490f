/- A part. -/
import Derived.Test.YtbgbpfbjeleooaaGreatRartAT
set_option maxHeartbeats 12800000
set_option maxRecDepth 100000
namespace Go.Proofs.YtbgbpfbjeleooaaGreat.Pd
open Go.RowKit
open Wr (Fld)
structure ASt where
 name:ByteArray
 f:Int
 i:Int
 s:ByteArray
 ts:List ByteArray
 ints:List Int
 kind:Int
def a0:ASt:=⟨⟨#[]⟩,0,0,⟨#[]⟩,[],[],0⟩
def jaR (s:ASt) (x:Fld):R ASt :=
 if x.num=1 then (jbZ x).bind fun t=>.ok ⟨t,s.f,s.i,s.s,s.ts,s.ints,s.kind⟩
 else if x.num=2 then (jcX x).bind fun y=>.ok ⟨s.name,y,s.i,s.s,s.ts,s.ints,s.kind⟩
 else if x.num=3 then (jbP x).bind fun y=>.ok ⟨s.name,s.f,y,s.s,s.ts,s.ints,s.kind⟩
 else if x.num=4 then (jbZ x).bind fun t=>.ok ⟨s.name,s.f,s.i,t,s.ts,s.ints,s.kind⟩
 else if x.num=5 then (jbZ x).bind fun t=>.ok ⟨s.name,s.f,s.i,s.s,s.ts++[t],s.ints,s.kind⟩
 else if x.num=8 then (jbc s.ints x).bind fun l=>.ok ⟨s.name,s.f,s.i,s.s,s.ts,l,s.kind⟩
 else if x.num=20 then (jbP x).bind fun y=>.ok ⟨s.name,s.f,s.i,s.s,s.ts,s.ints,y⟩
 else .ok s
structure NAtr where
 name:ByteArray
 kind:Int
 f:Int
 i:Int
 s:ByteArray
 ty:Int
 dims:List Int
 data:List Int
 ints:List Int
def jbC (a:Atr) (c:Cont):NAtr:=⟨a.name,a.kind,a.f,a.i,a.s,a.ty,c.d,c.t,c.i⟩
def je3 (a:NAtr):R NAtr :=
 if a.kind=1 then .ok ⟨a.name,a.kind,a.f,0,⟨#[]⟩,0,[],[],[]⟩
 else if a.kind=2 then .ok ⟨a.name,a.kind,0,a.i,⟨#[]⟩,0,[],[],[]⟩
 else if a.kind=3 then .ok ⟨a.name,a.kind,0,0,a.s,0,[],[],[]⟩
 else if a.kind=4 then .ok ⟨a.name,a.kind,0,0,⟨#[]⟩,a.ty,a.dims,a.data,[]⟩
 else if a.kind=7 then .ok ⟨a.name,a.kind,0,0,⟨#[]⟩,0,[],[],a.ints⟩
 else .error 5
def jmV (n m:Nat) (a:Atr):Prop:=∀ (c:Cont) (b:Nat),jgR a c b→n≤b∧b<m
theorem jaT (w:World):jaj w (.slice none 0 0) []:=⟨none,0,rfl,by simp,by simp,by simp,fun _=>⟨rfl,rfl⟩,fun h=>by simp at h,fun z hz=>by simp at hz⟩
theorem jmW (b:Nat):(Value.slice none 0 0).ownBlock≠some b:=by simp [Value.ownBlock]
theorem jkY {a b:Atr} {c:Cont} {w:World} {n m:Nat} (h:jcT a=.ok b) (hs:Has w a c) (hf:jmV n m a):∃ d,je3 (jbC a c)=.ok (jbC b d)∧Has w b d∧jmV n m b:=by
 unfold jcT at h;unfold je3 jbC;simp only
 split at h
 ·rename_i k
  cases h
  exact ⟨⟨[],[],[]⟩,by rw [if_pos k],⟨jaT _,jaT _,jaT _⟩,fun _ b e=>by rcases e with e | e | e <;> exact absurd e (jmW b)⟩
 split at h
 ·rename_i k1 k
  cases h
  exact ⟨⟨[],[],[]⟩,by rw [if_neg k1,if_pos k],⟨jaT _,jaT _,jaT _⟩,fun _ b e=>by rcases e with e | e | e <;> exact absurd e (jmW b)⟩
 split at h
 ·rename_i k1 k2 k
  cases h
  exact ⟨⟨[],[],[]⟩,by rw [if_neg k1,if_neg k2,if_pos k],⟨jaT _,jaT _,jaT _⟩,fun _ b e=>by rcases e with e | e | e <;> exact absurd e (jmW b)⟩
 split at h
 ·rename_i k1 k2 k3 k
  cases h
  exact ⟨⟨c.d,c.t,[]⟩,by rw [if_neg k1,if_neg k2,if_neg k3,if_pos k],⟨hs.d,hs.t,jaT _⟩,fun _ b e=>by
   rcases e with e | e | e
   ·exact hf c b (.inl e)
   ·exact hf c b (.inr (.inl e))
   ·exact absurd e (jmW b)⟩
 split at h
 ·rename_i k1 k2 k3 k4 k
  cases h
  exact ⟨⟨[],[],c.i⟩,by rw [if_neg k1,if_neg k2,if_neg k3,if_neg k4,if_pos k],⟨jaT _,jaT _,hs.i⟩,fun _ b e=>by
   rcases e with e | e | e
   ·exact absurd e (jmW b)
   ·exact absurd e (jmW b)
   ·exact hf c b (.inr (.inr e))⟩
 ·cases h
theorem jjp {a:Atr} {e:Int} (c:Cont) (h:jcT a=.error e):je3 (jbC a c)=.error e:=by
 unfold jcT at h;unfold je3 jbC;simp only
 split at h
 ·cases h
 split at h
 ·cases h
 split at h
 ·cases h
 split at h
 ·cases h
 split at h
 ·cases h
 ·rename_i k1 k2 k3 k4 k5;rw [if_neg k1,if_neg k2,if_neg k3,if_neg k4,if_neg k5]
  cases h
  rfl
def jn6:NTen:=⟨⟨#[]⟩,0,[],[]⟩
def jkZ (ts:List ByteArray):R NTen:=if ts.length=0 then .ok jn6 else jaB (jbR ts)
def jfE (t:ASt):R NAtr:=(jkZ t.ts).bind fun T=>(je3 ⟨t.name,t.kind,t.f,t.i,t.s,T.ty,T.dims,T.data,t.ints⟩).bind fun A=>(jal (decide (A.kind=4)&&t.ts.length==0) 4).bind fun _=>(jal (jas [A.name,A.s]||decide (20<A.ints.length)) 6).bind fun _=>.ok A
def jaw (s:ByteArray):R NAtr:=(jaX s).bind fun l=>(jaF jaR a0 l).bind jfE
def AInv (st:ASt) (r:List Fld):Prop:=st.ints.length+jgy r≤33554432∧st.ts.length+r.length≤16777216∧tot st.ts+tot (r.map (·.b))≤16777216∧(-9223372036854775808≤st.kind∧st.kind≤9223372036854775807)∧∀ y∈r,y.b.size≤16777216
theorem jd3 {nm s:ByteArray} {f i k:Int} {ts:List ByteArray} {ints:List Int} {r:List Fld} (h1:ints.length+jgy r≤33554432) (h2:ts.length+r.length≤16777216) (h3:tot ts+tot (r.map (·.b))≤16777216) (h4 : -9223372036854775808≤k∧k≤9223372036854775807) (h5:∀ y∈r,y.b.size≤16777216):AInv ⟨nm,f,i,s,ts,ints,k⟩ r:=⟨h1,h2,h3,h4,h5⟩
theorem jj3 {s:ByteArray} {l:List Fld} (h:jaX s=.ok l):AInv a0 l:=by
 have h1:=jcD h;have h2:=jbq h;have hc:jgy l≤33554432:=by unfold jgy;omega
 exact ⟨by simpa [a0] using hc,by simpa [a0] using h2,by simpa [a0,tot] using h1,by decide,fun y hy=>jdX h y hy⟩
theorem jne {w:World} {B:Nat} {z0 z1 z2 z3 z4 z5 z6 z7 z8:Value} {t:TypeId} (hb:w.heap[B]?=some (.cells #[z0,z1,z2,z3,z4,z5,z6,z7,z8] t (0,0))) (a:Value) :
    (w.setCell ⟨B,0,none⟩ a).heap[B]?=some (.cells #[a,z1,z2,z3,z4,z5,z6,z7,z8] t (0,0))∧(w.setCell ⟨B,1,none⟩ a).heap[B]?=some (.cells #[z0,a,z2,z3,z4,z5,z6,z7,z8] t (0,0))∧(w.setCell ⟨B,2,none⟩ a).heap[B]?=some (.cells #[z0,z1,a,z3,z4,z5,z6,z7,z8] t (0,0))∧(w.setCell ⟨B,3,none⟩ a).heap[B]?=some (.cells #[z0,z1,z2,a,z4,z5,z6,z7,z8] t (0,0))∧(w.setCell ⟨B,4,none⟩ a).heap[B]?=some (.cells #[z0,z1,z2,z3,a,z5,z6,z7,z8] t (0,0))∧(w.setCell ⟨B,8,none⟩ a).heap[B]?=some (.cells #[z0,z1,z2,z3,z4,z5,z6,z7,a] t (0,0)) :=
     ⟨by simpa using heap_setCell_same w B 0 _ _ a hb,by simpa using heap_setCell_same w B 1 _ _ a hb,by simpa using heap_setCell_same w B 2 _ _ a hb,by simpa using heap_setCell_same w B 3 _ _ a hb,by simpa using heap_setCell_same w B 4 _ _ a hb,by simpa using heap_setCell_same w B 8 _ _ a hb⟩
theorem put9t {w:World} {B:Nat} {z0 z1 z2 z3 z4 z5 z6 z7 z8:Value} {t:TypeId} (hb:w.heap[B]?=some (.cells #[z0,z1,z2,z3,z4,z5,z6,z7,z8] t (0,0))) (a b c:Value) :
    (((w.setCell ⟨B,5,none⟩ a).setCell ⟨B,6,none⟩ b).setCell ⟨B,7,none⟩ c).heap[B]?=some (.cells #[z0,z1,z2,z3,z4,a,b,c,z8] t (0,0))∧w.grownBy (((w.setCell ⟨B,5,none⟩ a).setCell ⟨B,6,none⟩ b).setCell ⟨B,7,none⟩ c) (some B):=by
     have h1:=heap_setCell_same w B 5 _ _ a hb;have h2:=heap_setCell_same _ B 6 _ _ b h1;have h3:=heap_setCell_same _ B 7 _ _ c h2;exact ⟨by simpa using h3,Wr.row_trans (Wr.row_trans (jak w B 5 a) (jak _ B 6 b)) (jak _ B 7 c)⟩
theorem jk0 {w:World} {B:Nat} {cs0 cs:Array Value} {t:TypeId} (hb:w.heap[B]?=some (.cells cs0 t (0,0))):(w.setRow B cs).heap[B]?=some (.cells cs t (0,0))∧w.grownBy (w.setRow B cs) (some B):=⟨setRow_heap _ B _ cs _ _ hb,jbE w B cs⟩
end Go.Proofs.YtbgbpfbjeleooaaGreat.Pd
namespace Go.Proofs.YtbgbpfbjeleooaaGreat.Pd
open Go.RowKit
open Wr (Fld)
theorem jh2 {w:World} {b1 b2 t1 t2 s1 s2 n1 n2:Nat} {v1 v2:Value} {c1 c2:List Value} (h1:w.ownsRow b1 t1 s1 v1 n1 c1) (h2:w.ownsRow b2 t2 s2 v2 n2 c2) (ht:t1≠t2):v1.ownBlock=none∨v1.ownBlock≠v2.ownBlock:=by
 rcases h1.2 with ⟨e,-⟩ | ⟨g,cap,cur,e,-,hg,-⟩
 ·exact .inl (by rw [e];rfl)
 ·rcases h2.2 with ⟨e',-⟩ | ⟨g',cap',cur',e',-,hg',-⟩
  ·exact .inr (by rw [e,e'];simp [Value.ownBlock])
  ·refine .inr ?_;rw [e,e'];simp only [Value.ownBlock,ne_eq,Option.some.injEq];rintro rfl;rw [hg] at hg';simp only [Option.some.injEq,Obj.cells.injEq] at hg';exact ht hg'.2.1
theorem jh3 (n:ByteArray) (t:Int) (a:Option Addr) (i c:Nat) (b:Option Addr) (j d:Nat) (W:World):(Instr.field 67 (.agg #[.string n,.int .i64 t,.slice a i c,.slice b j d]) 1).run Tryz.prog W=.ok (.agg #[.int .i64 t,.slice a i c,.slice b j d]) W:=by kernel_rfl
theorem jhm {w:World} {B:Nat} {t:TypeId} {s0 s1:ByteArray} (hb:w.heap[B]?=some (.cells #[.string s0,.string s1] t (0,0))):IsL 16 1 jbg w (.slice (some ⟨B,0,none⟩) 2 2) [s0,s1]:=by
 refine ⟨_,2,rfl,by simp,by decide,by simp,(fun h=>by cases h),fun _=>⟨B,0,rfl,fun k hk j hj=>?_⟩⟩;obtain rfl:j=0:=by omega
 have h3:k=0∨k=1:=by simp at hk;omega
 rcases h3 with rfl | rfl
 ·exact ⟨cell_of_row _ _ 0 _ _ (0,0) hb,by simp [jbg]⟩
 ·exact ⟨cell_of_row _ _ 1 _ _ (0,0) hb,by simp [jbg]⟩
theorem jdt {w w3:World} {lo B b0 j base:Nat} {y:Fld} {r:List Fld} (a:Value) {iv sv:Value} {zs:List Int} {ss:List ByteArray} (hc:jdo w3 lo B y r) (h0:w.grownBy w3 none) (ho:O64 w3 base iv zs) (hs:jew w3 base sv ss) (hb:b0<lo) (hw:w.heap.size≤b0) (hl:lo≤base) :
    (∀ b,b≠b0→b<w3.heap.size→(w3.setCell ⟨b0,j,none⟩ a).heap[b]?=w3.heap[b]?)∧jdo (w3.setCell ⟨b0,j,none⟩ a) lo B y r∧w.grownBy (w3.setCell ⟨b0,j,none⟩ a) none∧O64 (w3.setCell ⟨b0,j,none⟩ a) base iv zs∧jew (w3.setCell ⟨b0,j,none⟩ a) base sv ss :=
     have hg:=jak w3 b0 j a
     ⟨fun b hne hl=>hg.block b hl (fun e=>hne (Option.some.inj e)),hc.kept hg (fun g e=>.inl (by cases e;exact hb)),jaf h0 hg (fun g e=>.inr (by cases e;exact hw)),ho.more hg (jfx ho (by omega)),hs.kept hg (fun g e=>by cases e;omega)⟩
theorem jcs (s:ByteArray) (w:World) (hs:s.size≤9223372036854775807) :
    Calls Tryz.prog 107 #[.string s] w (jbU w (jaw s) fun A v w'=>∃ (a:Atr) (c:Cont),v=jb8 a∧A=jbC a c∧Has w' a c∧jmV w.heap.size w'.heap.size a):=by
     obtain ⟨is0,hs0,hs1,hs2,hs3⟩:=info_parts jej;have O:=jac (fun wx=>jcI s wx hs);obtain ⟨w0,hw0⟩ : ∃ w0,w0=(w.alloc (.cells #[.string ⟨#[]⟩,.int .i64 0,.int .i64 0,.int .i64 0,.string ⟨#[]⟩,.int .i64 0,.slice none 0 0,.slice none 0 0,.slice none 0 0] 78)).alloc (.cells #[.string ⟨#[]⟩,.int .i64 0,.int .i64 0,.int .i64 0,.string ⟨#[]⟩,.int .i64 0,.slice none 0 0,.slice none 0 0,.slice none 0 0] 78):=⟨_,rfl⟩
     have g0:w.grownBy w0 none:=by rw [hw0];exact jaa (jab _ _) (jab _ _)
     have hbR:w0.heap[w.heap.size]?=some (.cells #[.string ⟨#[]⟩,.int .i64 0,.int .i64 0,.int .i64 0,.string ⟨#[]⟩,.int .i64 0,.slice none 0 0,.slice none 0 0,.slice none 0 0] 78 (0,0)):=by rw [hw0];exact jbT _ _ _ _ _
     have hbA:w0.heap[w.heap.size+1]?=some (.cells #[.string ⟨#[]⟩,.int .i64 0,.int .i64 0,.int .i64 0,.string ⟨#[]⟩,.int .i64 0,.slice none 0 0,.slice none 0 0,.slice none 0 0] 78 (0,0)):=by rw [hw0];exact jcO _ _ _ _ _
     have S0:w0.heap.size=w.heap.size+2:=by rw [hw0,jar,jar]
     rcases jbd s with ⟨l,hl⟩ | ⟨c,hc,-⟩
     ·rw [hl] at O;have FL:=jac hl;have E0:Hid (jaw s=(jaF jaR a0 l).bind jfE):=by show _=_;unfold jaw;rw [hl];rfl
      clear hl;go_enter Tryz.func107,Tryz.ntmps107;go_wp2_with fail;rw [← hw0];refine (O.out w0).mono ?_;rintro e w1 ⟨hg1,v,rfl,B,rfl,hcur⟩;obtain ⟨lo,hlo⟩ : ∃ lo,lo=w0.heap.size:=⟨_,rfl⟩
      rw [← hlo] at hcur S0;have LB:lo≤B:=by obtain ⟨_,_,_,_,h⟩:=hcur;exact h
      obtain ⟨bR,hR⟩ : ∃ b,b=w.heap.size:=⟨_,rfl⟩
      obtain ⟨bA,hA⟩ : ∃ b,b=w.heap.size+1:=⟨_,rfl⟩
      rw [← hR] at hbR;rw [← hA] at hbA ⊢;rw [← hR];have BT:Hid (bA<B∧bR<B):=⟨by omega,by omega⟩
      have BL:Hid (bA<lo∧w.heap.size≤bA∧lo≤B+1):=⟨by omega,by omega,by omega⟩
      have BN:Hid (bR≠bA):=by show bR≠bA;omega
      have HB:Hid (w.heap.size≤B):=by show w.heap.size≤B;omega
      have RI:Hid (bR=w.heap.size):=hR;have R1:w1.heap[bR]?=some (.cells #[.string ⟨#[]⟩,.int .i64 0,.int .i64 0,.int .i64 0,.string ⟨#[]⟩,.int .i64 0,.slice none 0 0,.slice none 0 0,.slice none 0 0] 78 (0,0)):=(hg1.block bR (by omega) (by simp)).trans hbR;have A1:w1.heap[bA]?=some (.cells #[.string ⟨#[]⟩,.int .i64 0,.int .i64 0,.int .i64 0,.string ⟨#[]⟩,.int .i64 0,.slice none 0 0,.slice none 0 0,.slice none 0 0] 78 (0,0)):=(hg1.block bA (by omega) (by simp)).trans hbA;have IN:AInv a0 l:=jj3 FL.out;have G1:=jaa g0 hg1;clear hbR hbA g0 hg1 hw0 S0 hlo LB hR hA;go_wp2_with fail;go_loopg [4] l.length (fun gh sv wr=>∃ (x:Fld) (r:List Fld) (st:ASt) (iv:Sl),gh=r.length∧wr.heap[bR]?=some (.cells #[.string ⟨#[]⟩,.int .i64 0,.int .i64 0,.int .i64 0,.string ⟨#[]⟩,.int .i64 0,.slice none 0 0,.slice none 0 0,.slice none 0 0] 78 (0,0))∧wr.heap[bA]?=some (.cells #[.string st.name,.int .i64 st.kind,.int .i64 st.f,.int .i64 st.i,.string st.s,.int .i64 0,.slice none 0 0,.slice none 0 0,.slice iv.a iv.n iv.c] 78 (0,0))∧O64 wr (B+1) iv.v st.ints∧jew wr (B+1) sv st.ts∧jdo wr lo B x r∧w.grownBy wr none∧jaF jaR a0 l=jaF jaR st r∧AInv st r)
      case atStart=>exact ⟨_,l,a0,⟨none,0,0⟩,rfl,R1,A1,O64.nil _ _,OwnsL.nil ..,hcur,G1,rfl,IN⟩
      case round =>
       obtain ⟨x,r,⟨nm,ff,ii,ss,ts,zs,kk⟩,⟨ia,iln,ic⟩,rfl,hR,hT,hio,hso,hcu,hg,hf,hin⟩:=hrel;simp only [Sl.v] at hR hT hio hso;obtain ⟨ia',ic',e9⟩:=hio.form;simp only [Value.slice.injEq] at e9;obtain ⟨rfl,rfl,rfl⟩:=e9;have HF:=jac hf;have HC:=jac hcu;have HG:=jac hg;have HI:Hid (zs.length+jgy r≤33554432∧ts.length+r.length≤16777216∧tot ts+tot (r.map (·.b))≤16777216∧(-9223372036854775808≤kk∧kk≤9223372036854775807)∧∀ y∈r,y.b.size≤16777216):=hin;have O1:=jac hio;have I1:=jac hso;have HR:=jac hR;have HT:=jac hT;clear hf hcu hg hin hio hso hR hT hcur R1 A1 IN G1;obtain ⟨va,vc,rfl⟩:=OwnsL.form I1.out
       cases r with
       | nil =>
        have NX:=jac (jbX _ B x wr HC.out);have E1:Hid (jaw s=jfE ⟨nm,ff,ii,ss,ts,zs,kk⟩):=by show _=_;rw [E0.out,HF.out];rfl
        by_cases h0:ts.length=0
        ·have b0:¬ 0<ts.length:=by omega
         have l0:((ts.length:Int)==0)=true:=by simp [h0]
         have E1':Hid (jaw s=(je3 (jbC ⟨nm,kk,ff,ii,ss,0,⟨none,0,0⟩,⟨none,0,0⟩,⟨ia,zs.length,ic⟩⟩ ⟨[],[],zs⟩)).bind fun A=>(jal (decide (A.kind=4)&&true) 4).bind fun _=>(jal (jas [A.name,A.s]||decide (20<A.ints.length)) 6).bind fun _=>.ok A):=by
          show _=_;rw [E1.out];unfold jfE jkZ;simp only [h0];rfl
         have HAS':Hid (Has wr ⟨nm,kk,ff,ii,ss,0,⟨none,0,0⟩,⟨none,0,0⟩,⟨ia,zs.length,ic⟩⟩ ⟨[],[],zs⟩):=⟨jaT _,jaT _,O1.out.ints⟩
         have FT':Hid (jmV (B+1) wr.heap.size ⟨nm,kk,ff,ii,ss,0,⟨none,0,0⟩,⟨none,0,0⟩,⟨ia,zs.length,ic⟩⟩):=fun c b e=>by
          rcases e with e | e | e
          ·exact absurd e (jmW b)
          ·exact absurd e (jmW b)
          ·exact World.ownsRow.lt O1.out.1 b e
         have S5':Hid (bR<wr.heap.size):=by have:=HC.out.lt;have:=BT.out;show bR<_;omega
         clear E1 h0 O1 I1;have S58:=jac (Nat.le_refl wr.heap.size);have E1:=E1';have HAS:=HAS';have FT:=FT';have S5:Hid (bR<wr.heap.size∧True):=⟨S5'.out,trivial⟩
         have A5:=HT;have R5:=HR;have G5:=HG;clear E1' HAS' FT' S5' HR HT HG;obtain ⟨⟨x0,x1,x2,x3,x4,x5,x6,x7,x8⟩,-⟩:=jau A5.out;go_wp2_with (first | (go_at_call 51;refine NX.out.mono ?_;rintro e w' ⟨rfl,rfl⟩) | fail);have KA:=jac (jgS ⟨nm,kk,ff,ii,ss,0,⟨none,0,0⟩,⟨none,0,0⟩,⟨ia,zs.length,ic⟩⟩ wr);unfold jb8 at KA;simp only at KA;clear x0 x1 x2 x3 x4 x5 x6 x7 x8
         cases hk:jcT ⟨nm,kk,ff,ii,ss,0,⟨none,0,0⟩,⟨none,0,0⟩,⟨ia,zs.length,ic⟩⟩ with
         | error c =>
          have E2:Hid (jaw s=.error c):=by show _=_;rw [E1.out,jjp ⟨[],[],zs⟩ hk];rfl
          rw [hk] at KA;clear hk;refine KA.out.mono ?_;rintro e w6 ⟨hg6,rfl⟩;exact ⟨rfl,jad E2.out (jaa G5.out hg6)⟩
         | ok b =>
          obtain ⟨d,hd,hb,hf⟩:=jkY hk HAS.out FT.out;rw [hk] at KA;obtain ⟨bn,bk,bf,bi,bs,bty,⟨bda,bdn,bdc⟩,⟨bta,btn,btc⟩,⟨bia,bin,bic⟩⟩:=b;have hin:bin=d.i.length:=by obtain ⟨_,_,e,_⟩:=hb.i;simp only [Sl.v,Value.slice.injEq] at e;exact e.2.1
          have E2:Hid (jaw s=(jal (decide (bk=4)&&true) 4).bind fun _=>(jal (jas [bn,bs]||decide (20<bin)) 6).bind fun _=>.ok (jbC ⟨bn,bk,bf,bi,bs,bty,⟨bda,bdn,bdc⟩,⟨bta,btn,btc⟩,⟨bia,bin,bic⟩⟩ d)):=by show _=_;rw [E1.out,hd,hin];rfl
          have HH:=jac hb;have HF:=jac hf;clear hk hd hb hf hin E1;refine KA.out.mono ?_;rintro e w6 ⟨hg6,v,rfl,rfl⟩;have G6:=jac (jaa G5.out hg6);have H6:=jac (HH.out.more hg6);have R6:=jac ((hg6.block bR S5.out.1 (by simp)).trans R5.out);have hs6:=hg6.size;have S6:Hid (bR<w6.heap.size∧wr.heap.size≤w6.heap.size):=⟨by have:=S5.out.1;omega,hs6⟩
          clear hg6 hs6 KA HH;simp only;obtain ⟨⟨x0,x1,x2,x3,x4,x5,x6,x7,x8⟩,-⟩:=jau (heap_alloc_new w6 (.cells #[.string bn,.int .i64 bk,.int .i64 bf,.int .i64 bi,.string bs,.int .i64 bty,.slice bda bdn bdc,.slice bta btn btc,.slice bia bin bic] 78));have g7:=jab w6 (.cells #[.string bn,.int .i64 bk,.int .i64 bf,.int .i64 bi,.string bs,.int .i64 bty,.slice bda bdn bdc,.slice bta btn btc,.slice bia bin bic] 78);have HA7:=jac (heap_alloc_new w6 (.cells #[.string bn,.int .i64 bk,.int .i64 bf,.int .i64 bi,.string bs,.int .i64 bty,.slice bda bdn bdc,.slice bta btn btc,.slice bia bin bic] 78));have G7:=jac (jaa G6.out g7);have H7:=jac (H6.out.more g7);have R7:=jac ((g7.block bR S6.out.1 (by simp)).trans R6.out);have S7:Hid (bR<(w6.alloc (.cells #[.string bn,.int .i64 bk,.int .i64 bf,.int .i64 bi,.string bs,.int .i64 bty,.slice bda bdn bdc,.slice bta btn btc,.slice bia bin bic] 78)).heap.size∧wr.heap.size≤(w6.alloc (.cells #[.string bn,.int .i64 bk,.int .i64 bf,.int .i64 bi,.string bs,.int .i64 bty,.slice bda bdn bdc,.slice bta btn btc,.slice bia bin bic] 78)).heap.size):=⟨by have:=S6.out.1;have:=g7.size;show _<_;omega,by have:=S6.out.2;have:=g7.size;omega⟩
          clear g7
          by_cases hk4:bk=4
          ·have c4:(bk==4)=true:=by simp [hk4]
           have E3:Hid (jaw s=.error 4):=by show _=_;rw [E2.out,hk4];rfl
           clear hk4;go_wp2_with (go_at_call 53;refine (jaD _ _).mono ?_;rintro e w' ⟨rfl,rfl⟩);exact ⟨rfl,jad E3.out G7.out⟩
          ·have c4:(bk==4)=false:=by simpa using hk4
           have E3:Hid (jaw s=(jal (jas [bn,bs]||decide (20<bin)) 6).bind fun _=>.ok (jbC ⟨bn,bk,bf,bi,bs,bty,⟨bda,bdn,bdc⟩,⟨bta,btn,btc⟩,⟨bia,bin,bic⟩⟩ d)):=by show _=_;rw [E2.out];simp [jal,hk4];rfl
           clear hk4 E2;go_wp2_with fail;obtain ⟨w7,hw7⟩ : ∃ w7,w7=w6.alloc (.cells #[.string bn,.int .i64 bk,.int .i64 bf,.int .i64 bi,.string bs,.int .i64 bty,.slice bda bdn bdc,.slice bta btn btc,.slice bia bin bic] 78):=⟨_,rfl⟩
           rw [← hw7] at HA7 G7 H7 R7 S7 ⊢;clear hw7 x0 x1 x2 x3 x4 x5 x6 x7 x8;obtain ⟨⟨x0,x1,x2,x3,x4,x5,x6,x7,x8⟩,-⟩:=jau HA7.out;have LG:=jac (jaN (.slice (some ⟨w7.heap.size,0,none⟩) 2 2) [bn,bs] (w7.alloc (.cells #[.string bn,.string bs] 9)) (jhm (heap_alloc_new w7 _)));have g8:=jab w7 (.cells #[.string bn,.string bs] 9);have G8:=jac (jaa G7.out g8);have H8:=jac (H7.out.more g8);have R8:=jac ((g8.block bR S7.out.1 (by simp)).trans R7.out);have A8:=jac ((g8.block w6.heap.size (Array.getElem?_eq_some_iff.1 HA7.out).1 (by simp)).trans HA7.out);have S8:Hid (bR<(w7.alloc (.cells #[.string bn,.string bs] 9)).heap.size∧wr.heap.size≤(w7.alloc (.cells #[.string bn,.string bs] 9)).heap.size):=by have:=S7.out;have:=g8.size;exact ⟨by omega,by omega⟩
           clear g8;go_wp2_with (first | (go_at_call 53;refine (jaM _ _).mono ?_;rintro e w' ⟨rfl,rfl⟩) | fail);refine LG.out.mono ?_;obtain ⟨w8,hw8⟩ : ∃ w8,w8=w7.alloc (.cells #[.string bn,.string bs] 9):=⟨_,rfl⟩
           rw [← hw8] at G8 H8 R8 A8 S8 ⊢;clear hw8 LG x0 x1 x2 x3 x4 x5 x6 x7 x8;rintro e w9 ⟨rfl,rfl⟩;obtain ⟨⟨x0,x1,x2,x3,x4,x5,x6,x7,x8⟩,-⟩:=jau A8.out
           cases hlg:jas [bn,bs] with
           | true =>
            have E4:Hid (jaw s=.error 6):=by show _=_;rw [E3.out,hlg];rfl
            clear hlg;go_wp2_with (go_at_call 53;refine (jaD _ _).mono ?_;rintro e w' ⟨rfl,rfl⟩);exact ⟨rfl,jad E4.out G8.out⟩
           | false =>
            by_cases h20:20<bin
            ·have E4:Hid (jaw s=.error 6):=by show _=_;rw [E3.out,hlg,decide_eq_true h20];rfl
             have d20:decide ((20:Int)<(bin:Int))=true:=by simp;omega
             clear hlg;go_wp2_with (go_at_call 53;refine (jaD _ _).mono ?_;rintro e w' ⟨rfl,rfl⟩);exact ⟨rfl,jad E4.out G8.out⟩
            ·have E4:Hid (jaw s=.ok (jbC ⟨bn,bk,bf,bi,bs,bty,⟨bda,bdn,bdc⟩,⟨bta,btn,btc⟩,⟨bia,bin,bic⟩⟩ d)):=by show _=_;rw [E3.out,hlg,decide_eq_false h20];rfl
             have d20:decide ((20:Int)<(bin:Int))=false:=by simp;omega
             clear hlg;have X9:=jac (jk0 (cs:=#[.string bn,.int .i64 bk,.int .i64 bf,.int .i64 bi,.string bs,.int .i64 bty,.slice bda bdn bdc,.slice bta btn btc,.slice bia bin bic]) R8.out);have GX:=jac (jaf (row:=none) G8.out X9.out.2 (fun g e=>by cases e;exact .inr (by have:=RI.out;omega)));have HX:=jac (H8.out.kept fun b hb e=>X9.out.2.block b hb (fun e2=>by have:=Option.some.inj e2;have:=HF.out d b e;have:=BT.out;omega))
             have FX:Hid (jmV w.heap.size (w8.setRow bR #[.string bn,.int .i64 bk,.int .i64 bf,.int .i64 bi,.string bs,.int .i64 bty,.slice bda bdn bdc,.slice bta btn btc,.slice bia bin bic]).heap.size ⟨bn,bk,bf,bi,bs,bty,⟨bda,bdn,bdc⟩,⟨bta,btn,btc⟩,⟨bia,bin,bic⟩⟩):=fun c b e=>by
              have h1:=HF.out c b e;have h2:=X9.out.2.size;have h3:=S8.out;have:=HB.out;exact ⟨by omega,by omega⟩
             go_wp2_with (first | (go_at_call 53;refine (jaM _ _).mono ?_;rintro e w' ⟨rfl,rfl⟩) | (refine wpList_store_row rfl 78 (.tmp 2) (.tmp 88) rfl bR #[.string bn,.int .i64 bk,.int .i64 bf,.int .i64 bi,.string bs,.int .i64 bty,.slice bda bdn bdc,.slice bta btn btc,.slice bia bin bic] rfl rfl 78 _ R8.out jbA rfl (by simp [Value.oneCell']) ?_));refine bodyPost_ret (jcP rfl _ _ bR rfl X9.out.1) rfl ?_;exact jaI E4.out GX.out ⟨⟨bn,bk,bf,bi,bs,bty,⟨bda,bdn,bdc⟩,⟨bta,btn,btc⟩,⟨bia,bin,bic⟩⟩,d,rfl,rfl,HX.out,FX.out⟩
        ·have b0:0<ts.length:=by omega
         have l0:((ts.length:Int)==0)=false:=beq_eq_false_iff_ne.2 (by omega)
         have E2:Hid (jaw s=(jaB (jbR ts)).bind fun T=>(je3 ⟨nm,kk,ff,ii,ss,T.ty,T.dims,T.data,zs⟩).bind fun A=>(jal (decide (A.kind=4)&&false) 4).bind fun _=>(jal (jas [A.name,A.s]||decide (20<A.ints.length)) 6).bind fun _=>.ok A):=by
          show _=_;rw [E1.out];unfold jfE jkZ;rw [if_neg h0];have hb:(ts.length==0)=false:=by simpa using h0
          simp only [hb]
         have TL:Hid (ts.length≤16777216∧tot ts≤16777216):=by
          have h1:=HI.out.2.1;have h2:=HI.out.2.2.1;exact ⟨by simpa using h1,by simp [tot] at h2 ⊢;omega⟩
         have JN:=jac (jeX (B+1) _ ts wr I1.out TL.out.1 TL.out.2);clear h0 E1;go_wp2_with (first | (go_at_call 51;refine NX.out.mono ?_;rintro e w' ⟨rfl,rfl⟩) | (go_at_call 55;refine JN.out.mono ?_;rintro e w3 ⟨rfl,hg3⟩) | fail);have SB:=jac (jbI (jbR ts) w3 (by rw [jds];have:=TL.out.2;omega));have G3:=jac (jaa HG.out hg3);have hlt:=HC.out.lt;have T3:=jac ((hg3.block bA (by have:=BT.out;omega) (by simp)).trans HT.out);have R3:=jac ((hg3.block bR (by have:=BT.out;omega) (by simp)).trans HR.out);have O3:=jac (O1.out.new hg3);have S3:Hid (bA<w3.heap.size∧bR<w3.heap.size∧B+1≤w3.heap.size):=by have:=BT.out;have:=hg3.size;exact ⟨by omega,by omega,by omega⟩
         obtain ⟨jx,hjx⟩ : ∃ jx,jx=jbR ts:=⟨_,rfl⟩
         rw [← hjx] at SB E2 ⊢;clear hjx hg3 hlt HT HR HC HG JN O1 I1
         cases hd:jaB jx with
         | error c =>
          have E3:Hid (jaw s=.error c):=by show _=_;rw [E2.out,hd];rfl
          rw [hd] at SB;clear hd;refine SB.out.mono ?_;rintro e w4 ⟨hg4,rfl⟩;exact ⟨rfl,jad E3.out (jaa G3.out hg4)⟩
         | ok res =>
          obtain ⟨tnam,ty,ds,dat⟩:=res;have E1z:Hid (jaw s=(je3 (jbC ⟨nm,kk,ff,ii,ss,ty,⟨none,0,0⟩,⟨none,0,0⟩,⟨ia,zs.length,ic⟩⟩ ⟨ds,dat,zs⟩)).bind fun A=>(jal (decide (A.kind=4)&&false) 4).bind fun _=>(jal (jas [A.name,A.s]||decide (20<A.ints.length)) 6).bind fun _=>.ok A):=by show _=_;rw [E2.out,hd];rfl
          rw [hd] at SB;clear hd E2;refine SB.out.mono ?_;rintro e w4 ⟨hg4,v,rfl,⟨da,dn,dc⟩,⟨ta,tn,tc⟩,rfl,hq,hq2⟩;simp only [Sl.v] at hq hq2 ⊢;have A4:=jac ((hg4.block bA S3.out.1 (by simp)).trans T3.out);have R4:=jac ((hg4.block bR S3.out.2.1 (by simp)).trans R3.out);have G4:=jac (jaa G3.out hg4);have O4:=jac (O3.out.new hg4);have Q4:=jac hq;have D4:=jac hq2;have S4:Hid (bA<w4.heap.size∧bR<w4.heap.size∧w3.heap.size≤w4.heap.size):=by have:=S3.out;have:=hg4.size;exact ⟨by omega,by omega,by omega⟩
          have E1:Hid (jaw s=(je3 (jbC ⟨nm,kk,ff,ii,ss,ty,⟨da,dn,dc⟩,⟨ta,tn,tc⟩,⟨ia,zs.length,ic⟩⟩ ⟨ds,dat,zs⟩)).bind fun A=>(jal (decide (A.kind=4)&&false) 4).bind fun _=>(jal (jas [A.name,A.s]||decide (20<A.ints.length)) 6).bind fun _=>.ok A):=E1z;clear hq hq2 hg4 SB T3 R3 G3 O3 E1z;obtain ⟨⟨q0,q1,q2,q3,q4,q5,q6,q7,q8⟩,qf0,qf1,qf2,qf3,qf4,qf5,qf6,qf7,qf8⟩:=jau A4.out;have P6:=put9t A4.out (.int .i64 ty) (.slice da dn dc) (.slice ta tn tc);have A6:=jac P6.1;have gp:=P6.2;have G6:=jac (jaf (row:=none) G4.out gp (fun g e=>by cases e;exact .inr BL.out.2.1));have R6:=jac ((gp.block bR S4.out.2.1 (fun e=>BN.out (Option.some.inj e))).trans R4.out);have far:bA<B+1:=by have:=BT.out;omega
          have O6:=jac (O4.out.more gp (jfx O4.out far));have Q6:=jac (Q4.out.more gp (jfw Q4.out (by have:=S3.out;omega)));have D6:=jac (D4.out.more gp (jfx D4.out (by have:=S3.out;omega)));have S6:Hid (bR<(((w4.setCell ⟨bA,5,none⟩ (.int .i64 ty)).setCell ⟨bA,6,none⟩ (.slice da dn dc)).setCell ⟨bA,7,none⟩ (.slice ta tn tc)).heap.size):=by have:=S4.out;have:=gp.size;show bR<_;omega
          have hnf:=jh3 tnam ty da dn dc ta tn tc;clear P6 gp A4 R4 G4 O4 Q4 D4 far;go_wp2_with fail;obtain ⟨w5,hw5⟩ : ∃ w5,w5=((w4.setCell ⟨bA,5,none⟩ (.int .i64 ty)).setCell ⟨bA,6,none⟩ (.slice da dn dc)).setCell ⟨bA,7,none⟩ (.slice ta tn tc):=⟨_,rfl⟩
          rw [← hw5] at A6 G6 R6 O6 Q6 D6 S6 ⊢;clear hw5 q0 q1 q2 q3 q4 q5 q6 q7 q8 qf0 qf1 qf2 qf3 qf4 qf5 qf6 qf7 qf8 hnf;have HAS:Hid (Has w5 ⟨nm,kk,ff,ii,ss,ty,⟨da,dn,dc⟩,⟨ta,tn,tc⟩,⟨ia,zs.length,ic⟩⟩ ⟨ds,dat,zs⟩):=⟨Q6.out.ints,D6.out.ints,O6.out.ints⟩
          have FT:Hid (jmV (B+1) w5.heap.size ⟨nm,kk,ff,ii,ss,ty,⟨da,dn,dc⟩,⟨ta,tn,tc⟩,⟨ia,zs.length,ic⟩⟩):=fun c b e=>by
           have:=S3.out
           rcases e with e | e | e
           ·have:=Q6.out.lt b e;exact ⟨by omega,by omega⟩
           ·have:=World.ownsRow.lt D6.out.1 b e;exact ⟨by omega,by omega⟩
           ·exact World.ownsRow.lt O6.out.1 b e
          have S58:=jac (Nat.le_refl w5.heap.size);have S5:Hid (bR<w5.heap.size∧True):=⟨S6.out,trivial⟩
          have A5:=A6;have R5:=R6;have G5:=G6;clear A6 R6 G6 O6 Q6 D6 S6 S4 S3;obtain ⟨⟨x0,x1,x2,x3,x4,x5,x6,x7,x8⟩,-⟩:=jau A5.out;go_wp2_with fail;have KA:=jac (jgS ⟨nm,kk,ff,ii,ss,ty,⟨da,dn,dc⟩,⟨ta,tn,tc⟩,⟨ia,zs.length,ic⟩⟩ w5);unfold jb8 at KA;simp only at KA;clear x0 x1 x2 x3 x4 x5 x6 x7 x8
          cases hk:jcT ⟨nm,kk,ff,ii,ss,ty,⟨da,dn,dc⟩,⟨ta,tn,tc⟩,⟨ia,zs.length,ic⟩⟩ with
          | error c =>
           have E2:Hid (jaw s=.error c):=by show _=_;rw [E1.out,jjp ⟨ds,dat,zs⟩ hk];rfl
           rw [hk] at KA;clear hk;refine KA.out.mono ?_;rintro e w6 ⟨hg6,rfl⟩;exact ⟨rfl,jad E2.out (jaa G5.out hg6)⟩
          | ok b =>
           obtain ⟨d,hd,hb,hf⟩:=jkY hk HAS.out FT.out;rw [hk] at KA;obtain ⟨bn,bk,bf,bi,bs,bty,⟨bda,bdn,bdc⟩,⟨bta,btn,btc⟩,⟨bia,bin,bic⟩⟩:=b;have hin:bin=d.i.length:=by obtain ⟨_,_,e,_⟩:=hb.i;simp only [Sl.v,Value.slice.injEq] at e;exact e.2.1
           have E2:Hid (jaw s=(jal (decide (bk=4)&&false) 4).bind fun _=>(jal (jas [bn,bs]||decide (20<bin)) 6).bind fun _=>.ok (jbC ⟨bn,bk,bf,bi,bs,bty,⟨bda,bdn,bdc⟩,⟨bta,btn,btc⟩,⟨bia,bin,bic⟩⟩ d)):=by show _=_;rw [E1.out,hd,hin];rfl
           have HH:=jac hb;have HF:=jac hf;clear hk hd hb hf hin E1;refine KA.out.mono ?_;rintro e w6 ⟨hg6,v,rfl,rfl⟩;have G6:=jac (jaa G5.out hg6);have H6:=jac (HH.out.more hg6);have R6:=jac ((hg6.block bR S5.out.1 (by simp)).trans R5.out);have hs6:=hg6.size;have S6:Hid (bR<w6.heap.size∧w5.heap.size≤w6.heap.size):=⟨by have:=S5.out.1;omega,hs6⟩
           clear hg6 hs6 KA HH;simp only;obtain ⟨⟨x0,x1,x2,x3,x4,x5,x6,x7,x8⟩,-⟩:=jau (heap_alloc_new w6 (.cells #[.string bn,.int .i64 bk,.int .i64 bf,.int .i64 bi,.string bs,.int .i64 bty,.slice bda bdn bdc,.slice bta btn btc,.slice bia bin bic] 78));have g7:=jab w6 (.cells #[.string bn,.int .i64 bk,.int .i64 bf,.int .i64 bi,.string bs,.int .i64 bty,.slice bda bdn bdc,.slice bta btn btc,.slice bia bin bic] 78);have HA7:=jac (heap_alloc_new w6 (.cells #[.string bn,.int .i64 bk,.int .i64 bf,.int .i64 bi,.string bs,.int .i64 bty,.slice bda bdn bdc,.slice bta btn btc,.slice bia bin bic] 78));have G7:=jac (jaa G6.out g7);have H7:=jac (H6.out.more g7);have R7:=jac ((g7.block bR S6.out.1 (by simp)).trans R6.out);have S7:Hid (bR<(w6.alloc (.cells #[.string bn,.int .i64 bk,.int .i64 bf,.int .i64 bi,.string bs,.int .i64 bty,.slice bda bdn bdc,.slice bta btn btc,.slice bia bin bic] 78)).heap.size∧w5.heap.size≤(w6.alloc (.cells #[.string bn,.int .i64 bk,.int .i64 bf,.int .i64 bi,.string bs,.int .i64 bty,.slice bda bdn bdc,.slice bta btn btc,.slice bia bin bic] 78)).heap.size):=⟨by have:=S6.out.1;have:=g7.size;show _<_;omega,by have:=S6.out.2;have:=g7.size;omega⟩
           clear g7
           by_cases hk4:bk=4
           ·have c4:(bk==4)=true:=by simp [hk4]
            have E3:Hid (jaw s=(jal (jas [bn,bs]||decide (20<bin)) 6).bind fun _=>.ok (jbC ⟨bn,bk,bf,bi,bs,bty,⟨bda,bdn,bdc⟩,⟨bta,btn,btc⟩,⟨bia,bin,bic⟩⟩ d)):=by show _=_;rw [E2.out];simp [jal];rfl
            clear hk4 E2;go_wp2_with fail;obtain ⟨w7,hw7⟩ : ∃ w7,w7=w6.alloc (.cells #[.string bn,.int .i64 bk,.int .i64 bf,.int .i64 bi,.string bs,.int .i64 bty,.slice bda bdn bdc,.slice bta btn btc,.slice bia bin bic] 78):=⟨_,rfl⟩
            rw [← hw7] at HA7 G7 H7 R7 S7 ⊢;clear hw7 x0 x1 x2 x3 x4 x5 x6 x7 x8;obtain ⟨⟨x0,x1,x2,x3,x4,x5,x6,x7,x8⟩,-⟩:=jau HA7.out;have LG:=jac (jaN (.slice (some ⟨w7.heap.size,0,none⟩) 2 2) [bn,bs] (w7.alloc (.cells #[.string bn,.string bs] 9)) (jhm (heap_alloc_new w7 _)));have g8:=jab w7 (.cells #[.string bn,.string bs] 9);have G8:=jac (jaa G7.out g8);have H8:=jac (H7.out.more g8);have R8:=jac ((g8.block bR S7.out.1 (by simp)).trans R7.out);have A8:=jac ((g8.block w6.heap.size (Array.getElem?_eq_some_iff.1 HA7.out).1 (by simp)).trans HA7.out);have S8:Hid (bR<(w7.alloc (.cells #[.string bn,.string bs] 9)).heap.size∧w5.heap.size≤(w7.alloc (.cells #[.string bn,.string bs] 9)).heap.size):=by have:=S7.out;have:=g8.size;exact ⟨by omega,by omega⟩
            clear g8;go_wp2_with (first | (go_at_call 53;refine (jaM _ _).mono ?_;rintro e w' ⟨rfl,rfl⟩) | fail);refine LG.out.mono ?_;obtain ⟨w8,hw8⟩ : ∃ w8,w8=w7.alloc (.cells #[.string bn,.string bs] 9):=⟨_,rfl⟩
            rw [← hw8] at G8 H8 R8 A8 S8 ⊢;clear hw8 LG x0 x1 x2 x3 x4 x5 x6 x7 x8;rintro e w9 ⟨rfl,rfl⟩;obtain ⟨⟨x0,x1,x2,x3,x4,x5,x6,x7,x8⟩,-⟩:=jau A8.out
            cases hlg:jas [bn,bs] with
            | true =>
             have E4:Hid (jaw s=.error 6):=by show _=_;rw [E3.out,hlg];rfl
             clear hlg;go_wp2_with (go_at_call 53;refine (jaD _ _).mono ?_;rintro e w' ⟨rfl,rfl⟩);exact ⟨rfl,jad E4.out G8.out⟩
            | false =>
             by_cases h20:20<bin
             ·have E4:Hid (jaw s=.error 6):=by show _=_;rw [E3.out,hlg,decide_eq_true h20];rfl
              have d20:decide ((20:Int)<(bin:Int))=true:=by simp;omega
              clear hlg;go_wp2_with (go_at_call 53;refine (jaD _ _).mono ?_;rintro e w' ⟨rfl,rfl⟩);exact ⟨rfl,jad E4.out G8.out⟩
             ·have E4:Hid (jaw s=.ok (jbC ⟨bn,bk,bf,bi,bs,bty,⟨bda,bdn,bdc⟩,⟨bta,btn,btc⟩,⟨bia,bin,bic⟩⟩ d)):=by show _=_;rw [E3.out,hlg,decide_eq_false h20];rfl
              have d20:decide ((20:Int)<(bin:Int))=false:=by simp;omega
              clear hlg;have X9:=jac (jk0 (cs:=#[.string bn,.int .i64 bk,.int .i64 bf,.int .i64 bi,.string bs,.int .i64 bty,.slice bda bdn bdc,.slice bta btn btc,.slice bia bin bic]) R8.out);have GX:=jac (jaf (row:=none) G8.out X9.out.2 (fun g e=>by cases e;exact .inr (by have:=RI.out;omega)));have HX:=jac (H8.out.kept fun b hb e=>X9.out.2.block b hb (fun e2=>by have:=Option.some.inj e2;have:=HF.out d b e;have:=BT.out;omega))
              have FX:Hid (jmV w.heap.size (w8.setRow bR #[.string bn,.int .i64 bk,.int .i64 bf,.int .i64 bi,.string bs,.int .i64 bty,.slice bda bdn bdc,.slice bta btn btc,.slice bia bin bic]).heap.size ⟨bn,bk,bf,bi,bs,bty,⟨bda,bdn,bdc⟩,⟨bta,btn,btc⟩,⟨bia,bin,bic⟩⟩):=fun c b e=>by
               have h1:=HF.out c b e;have h2:=X9.out.2.size;have h3:=S8.out;have:=HB.out;exact ⟨by omega,by omega⟩
              go_wp2_with (first | (go_at_call 53;refine (jaM _ _).mono ?_;rintro e w' ⟨rfl,rfl⟩) | (refine wpList_store_row rfl 78 (.tmp 2) (.tmp 88) rfl bR #[.string bn,.int .i64 bk,.int .i64 bf,.int .i64 bi,.string bs,.int .i64 bty,.slice bda bdn bdc,.slice bta btn btc,.slice bia bin bic] rfl rfl 78 _ R8.out jbA rfl (by simp [Value.oneCell']) ?_));refine bodyPost_ret (jcP rfl _ _ bR rfl X9.out.1) rfl ?_;exact jaI E4.out GX.out ⟨⟨bn,bk,bf,bi,bs,bty,⟨bda,bdn,bdc⟩,⟨bta,btn,btc⟩,⟨bia,bin,bic⟩⟩,d,rfl,rfl,HX.out,FX.out⟩
           ·have c4:(bk==4)=false:=by simpa using hk4
            have E3:Hid (jaw s=(jal (jas [bn,bs]||decide (20<bin)) 6).bind fun _=>.ok (jbC ⟨bn,bk,bf,bi,bs,bty,⟨bda,bdn,bdc⟩,⟨bta,btn,btc⟩,⟨bia,bin,bic⟩⟩ d)):=by show _=_;rw [E2.out];simp [jal,hk4];rfl
            clear hk4 E2;go_wp2_with fail;obtain ⟨w7,hw7⟩ : ∃ w7,w7=w6.alloc (.cells #[.string bn,.int .i64 bk,.int .i64 bf,.int .i64 bi,.string bs,.int .i64 bty,.slice bda bdn bdc,.slice bta btn btc,.slice bia bin bic] 78):=⟨_,rfl⟩
            rw [← hw7] at HA7 G7 H7 R7 S7 ⊢;clear hw7 x0 x1 x2 x3 x4 x5 x6 x7 x8;obtain ⟨⟨x0,x1,x2,x3,x4,x5,x6,x7,x8⟩,-⟩:=jau HA7.out;have LG:=jac (jaN (.slice (some ⟨w7.heap.size,0,none⟩) 2 2) [bn,bs] (w7.alloc (.cells #[.string bn,.string bs] 9)) (jhm (heap_alloc_new w7 _)));have g8:=jab w7 (.cells #[.string bn,.string bs] 9);have G8:=jac (jaa G7.out g8);have H8:=jac (H7.out.more g8);have R8:=jac ((g8.block bR S7.out.1 (by simp)).trans R7.out);have A8:=jac ((g8.block w6.heap.size (Array.getElem?_eq_some_iff.1 HA7.out).1 (by simp)).trans HA7.out);have S8:Hid (bR<(w7.alloc (.cells #[.string bn,.string bs] 9)).heap.size∧w5.heap.size≤(w7.alloc (.cells #[.string bn,.string bs] 9)).heap.size):=by have:=S7.out;have:=g8.size;exact ⟨by omega,by omega⟩
            clear g8;go_wp2_with (first | (go_at_call 53;refine (jaM _ _).mono ?_;rintro e w' ⟨rfl,rfl⟩) | fail);refine LG.out.mono ?_;obtain ⟨w8,hw8⟩ : ∃ w8,w8=w7.alloc (.cells #[.string bn,.string bs] 9):=⟨_,rfl⟩
            rw [← hw8] at G8 H8 R8 A8 S8 ⊢;clear hw8 LG x0 x1 x2 x3 x4 x5 x6 x7 x8;rintro e w9 ⟨rfl,rfl⟩;obtain ⟨⟨x0,x1,x2,x3,x4,x5,x6,x7,x8⟩,-⟩:=jau A8.out
            cases hlg:jas [bn,bs] with
            | true =>
             have E4:Hid (jaw s=.error 6):=by show _=_;rw [E3.out,hlg];rfl
             clear hlg;go_wp2_with (go_at_call 53;refine (jaD _ _).mono ?_;rintro e w' ⟨rfl,rfl⟩);exact ⟨rfl,jad E4.out G8.out⟩
            | false =>
             by_cases h20:20<bin
             ·have E4:Hid (jaw s=.error 6):=by show _=_;rw [E3.out,hlg,decide_eq_true h20];rfl
              have d20:decide ((20:Int)<(bin:Int))=true:=by simp;omega
              clear hlg;go_wp2_with (go_at_call 53;refine (jaD _ _).mono ?_;rintro e w' ⟨rfl,rfl⟩);exact ⟨rfl,jad E4.out G8.out⟩
             ·have E4:Hid (jaw s=.ok (jbC ⟨bn,bk,bf,bi,bs,bty,⟨bda,bdn,bdc⟩,⟨bta,btn,btc⟩,⟨bia,bin,bic⟩⟩ d)):=by show _=_;rw [E3.out,hlg,decide_eq_false h20];rfl
              have d20:decide ((20:Int)<(bin:Int))=false:=by simp;omega
              clear hlg;have X9:=jac (jk0 (cs:=#[.string bn,.int .i64 bk,.int .i64 bf,.int .i64 bi,.string bs,.int .i64 bty,.slice bda bdn bdc,.slice bta btn btc,.slice bia bin bic]) R8.out);have GX:=jac (jaf (row:=none) G8.out X9.out.2 (fun g e=>by cases e;exact .inr (by have:=RI.out;omega)));have HX:=jac (H8.out.kept fun b hb e=>X9.out.2.block b hb (fun e2=>by have:=Option.some.inj e2;have:=HF.out d b e;have:=BT.out;omega))
              have FX:Hid (jmV w.heap.size (w8.setRow bR #[.string bn,.int .i64 bk,.int .i64 bf,.int .i64 bi,.string bs,.int .i64 bty,.slice bda bdn bdc,.slice bta btn btc,.slice bia bin bic]).heap.size ⟨bn,bk,bf,bi,bs,bty,⟨bda,bdn,bdc⟩,⟨bta,btn,btc⟩,⟨bia,bin,bic⟩⟩):=fun c b e=>by
               have h1:=HF.out c b e;have h2:=X9.out.2.size;have h3:=S8.out;have:=HB.out;exact ⟨by omega,by omega⟩
              go_wp2_with (first | (go_at_call 53;refine (jaM _ _).mono ?_;rintro e w' ⟨rfl,rfl⟩) | (refine wpList_store_row rfl 78 (.tmp 2) (.tmp 88) rfl bR #[.string bn,.int .i64 bk,.int .i64 bf,.int .i64 bi,.string bs,.int .i64 bty,.slice bda bdn bdc,.slice bta btn btc,.slice bia bin bic] rfl rfl 78 _ R8.out jbA rfl (by simp [Value.oneCell']) ?_));refine bodyPost_ret (jcP rfl _ _ bR rfl X9.out.1) rfl ?_;exact jaI E4.out GX.out ⟨⟨bn,bk,bf,bi,bs,bty,⟨bda,bdn,bdc⟩,⟨bta,btn,btc⟩,⟨bia,bin,bic⟩⟩,d,rfl,rfl,HX.out,FX.out⟩
       | cons y r =>
        have NX:=jac (jbY _ B x y r wr HC.out);have COST:=jac (jh0 y r);have YB:=jac (HI.out.2.2.2.2 y (List.mem_cons_self ..));go_wp2_with fail;refine NX.out.mono ?_;rintro e w2 ⟨rfl,hc2,hg2⟩;have hlt:=HC.out.lt;have HC2:=jac hc2;have HG2:=jac (jah HG.out hg2 (fun g e=>by cases e;exact HB.out));have O2:=jac (O1.out.more hg2 (jfx O1.out (by omega)));have S2:=jac (I1.out.kept (row:=some B) hg2 (fun g e=>by cases e;omega));have A2:=jac ((hg2.block bA (by have:=BT.out;omega) (fun e=>by have e2:=Option.some.inj e;have:=BT.out;omega)).trans HT.out);have R2:=jac ((hg2.block bR (by have:=BT.out;omega) (fun e=>by have e2:=Option.some.inj e;have:=BT.out;omega)).trans HR.out);obtain ⟨a0,a1,a2,a3⟩:=hc2.cells;clear hc2 hg2 NX HC HG HT HR hlt O1 I1
        by_cases h1:y.num=1
        ·have b1:(y.num==1)=true:=by simp [h1]
         have H1:=jac h1;clear h1;go_wp2_with fail;have TX:=jac (jaA B y w2 a1 a3);clear a0 a1 a2 a3
         rcases jaU y with ⟨q,hx⟩ | hx
         ·rw [hx] at TX;have ES:=jac (HF.out.trans (jay (f:=jaR) (b:=⟨q,ff,ii,ss,ts,zs,kk⟩) (by unfold jaR;rw [if_pos H1.out];rw [hx];rfl)))
          skip
          clear hx;refine TX.out.mono ?_;rintro e w3 ⟨hg3,v,rfl,rfl,rfl⟩;obtain ⟨⟨q0,q1,q2,q3,q4,q5,q6,q7,q8⟩,qf0,qf1,qf2,qf3,qf4,qf5,qf6,qf7,qf8⟩:=jau A2.out;go_wp2_with fail;have K4:=jac (jdt (j:=0) (.string q) HC2.out HG2.out O2.out S2.out BL.out.1 BL.out.2.1 BL.out.2.2);have A4:=jac ((jne A2.out (.string q)).1);have R4:=jac ((K4.out.1 bR BN.out (by have:=HC2.out.lt;have:=BT.out;omega)).trans R2.out);clear q0 q1 q2 q3 q4 q5 q6 q7 q8 qf0 qf1 qf2 qf3 qf4 qf5 qf6 qf7 qf8;go_roundg r.length
          case measure=>simp
          case rel=>exact ⟨y,r,⟨q,ff,ii,ss,ts,zs,kk⟩,⟨ia,zs.length,ic⟩,rfl,R4.out,A4.out,K4.out.2.2.2.1,K4.out.2.2.2.2,K4.out.2.1,K4.out.2.2.1,ES.out,jd3 (by have:=HI.out.1;have:=COST.out;omega) (by have:=HI.out.2.1;simp at this ⊢;omega) (by have t1:=HI.out.2.2.1;simp only [List.map_cons,jbk] at t1;omega) (HI.out.2.2.2.1) (fun z hz=>HI.out.2.2.2.2 z (List.mem_cons_of_mem _ hz))⟩
         ·rw [hx] at TX;have E:Hid (jaw s=.error 3):=by show _=_;rw [E0.out,HF.out,jaJ (f:=jaR) (c:=3) (by unfold jaR;rw [if_pos H1.out];rw [hx];rfl)];rfl
          clear hx;refine TX.out.mono ?_;rintro e w3 ⟨hg3,rfl⟩;exact ⟨rfl,jad E.out (jaa HG2.out hg3)⟩
        ·have b1:(y.num==1)=false:=by simpa using h1
         have H1:=jac h1;clear h1
         by_cases h2:y.num=2
         ·have b2:(y.num==2)=true:=by simp [h2]
          have H2:=jac h2;clear h2;go_wp2_with fail;have TX:=jac (jhS B y w2 a1 a2);clear a0 a1 a2 a3
          rcases jgg y with ⟨q,hx,-⟩ | hx
          ·rw [hx] at TX;have ES:=jac (HF.out.trans (jay (f:=jaR) (b:=⟨nm,q,ii,ss,ts,zs,kk⟩) (by unfold jaR;rw [if_neg H1.out];rw [if_pos H2.out];rw [hx];rfl)))
           skip
           clear hx;refine TX.out.mono ?_;rintro e w3 ⟨hg3,v,rfl,rfl,rfl⟩;obtain ⟨⟨q0,q1,q2,q3,q4,q5,q6,q7,q8⟩,qf0,qf1,qf2,qf3,qf4,qf5,qf6,qf7,qf8⟩:=jau A2.out;go_wp2_with fail;have K4:=jac (jdt (j:=2) (.int .i64 q) HC2.out HG2.out O2.out S2.out BL.out.1 BL.out.2.1 BL.out.2.2);have A4:=jac ((jne A2.out (.int .i64 q)).2.2.1);have R4:=jac ((K4.out.1 bR BN.out (by have:=HC2.out.lt;have:=BT.out;omega)).trans R2.out);clear q0 q1 q2 q3 q4 q5 q6 q7 q8 qf0 qf1 qf2 qf3 qf4 qf5 qf6 qf7 qf8;go_roundg r.length
           case measure=>simp
           case rel=>exact ⟨y,r,⟨nm,q,ii,ss,ts,zs,kk⟩,⟨ia,zs.length,ic⟩,rfl,R4.out,A4.out,K4.out.2.2.2.1,K4.out.2.2.2.2,K4.out.2.1,K4.out.2.2.1,ES.out,jd3 (by have:=HI.out.1;have:=COST.out;omega) (by have:=HI.out.2.1;simp at this ⊢;omega) (by have t1:=HI.out.2.2.1;simp only [List.map_cons,jbk] at t1;omega) (HI.out.2.2.2.1) (fun z hz=>HI.out.2.2.2.2 z (List.mem_cons_of_mem _ hz))⟩
          ·rw [hx] at TX;have E:Hid (jaw s=.error 3):=by show _=_;rw [E0.out,HF.out,jaJ (f:=jaR) (c:=3) (by unfold jaR;rw [if_neg H1.out];rw [if_pos H2.out];rw [hx];rfl)];rfl
           clear hx;refine TX.out.mono ?_;rintro e w3 ⟨hg3,rfl⟩;exact ⟨rfl,jad E.out (jaa HG2.out hg3)⟩
         ·have b2:(y.num==2)=false:=by simpa using h2
          have H2:=jac h2;clear h2
          by_cases h3:y.num=3
          ·have b3:(y.num==3)=true:=by simp [h3]
           have H3:=jac h3;clear h3;go_wp2_with fail;have TX:=jac (jcW B y w2 a1 a2);clear a0 a1 a2 a3
           rcases jcq y with ⟨q,hx,-⟩ | hx
           ·rw [hx] at TX;have ES:=jac (HF.out.trans (jay (f:=jaR) (b:=⟨nm,ff,q,ss,ts,zs,kk⟩) (by unfold jaR;rw [if_neg H1.out];rw [if_neg H2.out];rw [if_pos H3.out];rw [hx];rfl)))
            skip
            clear hx;refine TX.out.mono ?_;rintro e w3 ⟨hg3,v,rfl,rfl,rfl⟩;obtain ⟨⟨q0,q1,q2,q3,q4,q5,q6,q7,q8⟩,qf0,qf1,qf2,qf3,qf4,qf5,qf6,qf7,qf8⟩:=jau A2.out;go_wp2_with fail;have K4:=jac (jdt (j:=3) (.int .i64 q) HC2.out HG2.out O2.out S2.out BL.out.1 BL.out.2.1 BL.out.2.2);have A4:=jac ((jne A2.out (.int .i64 q)).2.2.2.1);have R4:=jac ((K4.out.1 bR BN.out (by have:=HC2.out.lt;have:=BT.out;omega)).trans R2.out);clear q0 q1 q2 q3 q4 q5 q6 q7 q8 qf0 qf1 qf2 qf3 qf4 qf5 qf6 qf7 qf8;go_roundg r.length
            case measure=>simp
            case rel=>exact ⟨y,r,⟨nm,ff,q,ss,ts,zs,kk⟩,⟨ia,zs.length,ic⟩,rfl,R4.out,A4.out,K4.out.2.2.2.1,K4.out.2.2.2.2,K4.out.2.1,K4.out.2.2.1,ES.out,jd3 (by have:=HI.out.1;have:=COST.out;omega) (by have:=HI.out.2.1;simp at this ⊢;omega) (by have t1:=HI.out.2.2.1;simp only [List.map_cons,jbk] at t1;omega) (HI.out.2.2.2.1) (fun z hz=>HI.out.2.2.2.2 z (List.mem_cons_of_mem _ hz))⟩
           ·rw [hx] at TX;have E:Hid (jaw s=.error 3):=by show _=_;rw [E0.out,HF.out,jaJ (f:=jaR) (c:=3) (by unfold jaR;rw [if_neg H1.out];rw [if_neg H2.out];rw [if_pos H3.out];rw [hx];rfl)];rfl
            clear hx;refine TX.out.mono ?_;rintro e w3 ⟨hg3,rfl⟩;exact ⟨rfl,jad E.out (jaa HG2.out hg3)⟩
          ·have b3:(y.num==3)=false:=by simpa using h3
           have H3:=jac h3;clear h3
           by_cases h4:y.num=4
           ·have b4:(y.num==4)=true:=by simp [h4]
            have H4:=jac h4;clear h4;go_wp2_with fail;have TX:=jac (jaA B y w2 a1 a3);clear a0 a1 a2 a3
            rcases jaU y with ⟨q,hx⟩ | hx
            ·rw [hx] at TX;have ES:=jac (HF.out.trans (jay (f:=jaR) (b:=⟨nm,ff,ii,q,ts,zs,kk⟩) (by unfold jaR;rw [if_neg H1.out];rw [if_neg H2.out];rw [if_neg H3.out];rw [if_pos H4.out];rw [hx];rfl)))
             skip
             clear hx;refine TX.out.mono ?_;rintro e w3 ⟨hg3,v,rfl,rfl,rfl⟩;obtain ⟨⟨q0,q1,q2,q3,q4,q5,q6,q7,q8⟩,qf0,qf1,qf2,qf3,qf4,qf5,qf6,qf7,qf8⟩:=jau A2.out;go_wp2_with fail;have K4:=jac (jdt (j:=4) (.string q) HC2.out HG2.out O2.out S2.out BL.out.1 BL.out.2.1 BL.out.2.2);have A4:=jac ((jne A2.out (.string q)).2.2.2.2.1);have R4:=jac ((K4.out.1 bR BN.out (by have:=HC2.out.lt;have:=BT.out;omega)).trans R2.out);clear q0 q1 q2 q3 q4 q5 q6 q7 q8 qf0 qf1 qf2 qf3 qf4 qf5 qf6 qf7 qf8;go_roundg r.length
             case measure=>simp
             case rel=>exact ⟨y,r,⟨nm,ff,ii,q,ts,zs,kk⟩,⟨ia,zs.length,ic⟩,rfl,R4.out,A4.out,K4.out.2.2.2.1,K4.out.2.2.2.2,K4.out.2.1,K4.out.2.2.1,ES.out,jd3 (by have:=HI.out.1;have:=COST.out;omega) (by have:=HI.out.2.1;simp at this ⊢;omega) (by have t1:=HI.out.2.2.1;simp only [List.map_cons,jbk] at t1;omega) (HI.out.2.2.2.1) (fun z hz=>HI.out.2.2.2.2 z (List.mem_cons_of_mem _ hz))⟩
            ·rw [hx] at TX;have E:Hid (jaw s=.error 3):=by show _=_;rw [E0.out,HF.out,jaJ (f:=jaR) (c:=3) (by unfold jaR;rw [if_neg H1.out];rw [if_neg H2.out];rw [if_neg H3.out];rw [if_pos H4.out];rw [hx];rfl)];rfl
             clear hx;refine TX.out.mono ?_;rintro e w3 ⟨hg3,rfl⟩;exact ⟨rfl,jad E.out (jaa HG2.out hg3)⟩
           ·have b4:(y.num==4)=false:=by simpa using h4
            have H4:=jac h4;clear h4
            by_cases h5:y.num=5
            ·have b5:(y.num==5)=true:=by simp [h5]
             have H5:=jac h5;clear h5;go_wp2_with fail;have TX:=jac (jaA B y w2 a1 a3);clear a0 a1 a2 a3
             rcases jaU y with ⟨sx,hx⟩ | hx
             ·rw [hx] at TX;have TB:=jac (jdY hx (Nat.le_refl _));have ES:=jac (HF.out.trans (jay (f:=jaR) (b:=⟨nm,ff,ii,ss,ts++[sx],zs,kk⟩) (by unfold jaR;rw [if_neg H1.out];rw [if_neg H2.out];rw [if_neg H3.out];rw [if_neg H4.out];rw [if_pos H5.out];rw [hx];rfl)));clear hx;refine TX.out.mono ?_;rintro e w3 ⟨-,v,rfl,rfl,rfl⟩;have OW:Hid (∀ o,jew (w2.alloc o) (B+1) (.slice va ts.length vc) ts):=fun o=>S2.out.more (jab _ _);have sz:B+1≤w2.heap.size:=HC2.out.lt;have hle:ts.length+1≤16777216:=by have:=HI.out.2.1;simp at this;omega
              go_wp2_with (at_builtin;refine Wr.wpList_push rfl (.tmp 38) (.tmp 41) 32 9 1 16 (.string ⟨#[]⟩) is0 jbg rfl Tryz.underlying32 hs0 hs1 hs2 hs3 rfl (by decide) (B+1) _ _ rfl (by exact OW.out _) w2.heap.size 1 sx #[.string sx] rfl (by exact heap_alloc_new w2 _) rfl rfl (jb7 sx) (by omega) (by simp only [maxLen];omega) (by simp;omega) ?_;intro v' w8 hown' hgrow);have og:=World.ownsRow.lt (OW.out (.cells #[.string sx] 9));have gn:=jab w2 (.cells #[.string sx] 9)
              have ST:Hid (w.grownBy w8 none∧jew w8 (B+1) v' (ts++[sx])∧jdo w8 lo B y r∧O64 w8 (B+1) (.slice ia zs.length ic) zs) :=
               ⟨jah (jaa HG2.out gn) hgrow (fun g e=>by have:=og g e;have:=HB.out;omega),hown',(HC2.out.more gn).kept hgrow (fun g e=>by have:=og g e;omega),(O2.out.new gn).more hgrow (jh2 (O2.out.new gn).1 (OW.out _) (by decide))⟩
              have A4:=jac ((hgrow.block bA (by have:=gn.size;have:=BT.out;omega) (fun e=>by have:=og bA e.symm;have:=BT.out;omega)).trans ((gn.block bA (by have:=BT.out;omega) (by simp)).trans A2.out));have R4:=jac ((hgrow.block bR (by have:=gn.size;have:=BT.out;omega) (fun e=>by have:=og bR e.symm;have:=BT.out;omega)).trans ((gn.block bR (by have:=BT.out;omega) (by simp)).trans R2.out));clear hown' hgrow OW og gn;go_roundg r.length
              case measure=>simp
              case rel=>exact ⟨y,r,⟨nm,ff,ii,ss,ts++[sx],zs,kk⟩,⟨ia,zs.length,ic⟩,rfl,R4.out,A4.out,ST.out.2.2.2,ST.out.2.1,ST.out.2.2.1,ST.out.1,ES.out,jd3 (by have:=HI.out.1;have:=COST.out;omega) (by have:=HI.out.2.1;simp at this ⊢;omega) (by have t1:=HI.out.2.2.1;have t2:=TB.out;simp only [List.map_cons,jbk] at t1;rw [jge,jfs];omega) (HI.out.2.2.2.1) (fun z hz=>HI.out.2.2.2.2 z (List.mem_cons_of_mem _ hz))⟩
             ·rw [hx] at TX;have E:Hid (jaw s=.error 3):=by show _=_;rw [E0.out,HF.out,jaJ (f:=jaR) (c:=3) (by unfold jaR;rw [if_neg H1.out];rw [if_neg H2.out];rw [if_neg H3.out];rw [if_neg H4.out];rw [if_pos H5.out];rw [hx];rfl)];rfl
              clear hx;refine TX.out.mono ?_;rintro e w3 ⟨hg3,rfl⟩;exact ⟨rfl,jad E.out (jaa HG2.out hg3)⟩
            ·have b5:(y.num==5)=false:=by simpa using h5
             have H5:=jac h5;clear h5
             by_cases h8:y.num=8
             ·have b8:(y.num==8)=true:=by simp [h8]
              have H8:=jac h8;clear h8;obtain ⟨⟨q0,q1,q2,q3,q4,q5,q6,q7,q8⟩,-⟩:=jau A2.out;go_wp2_with fail;have TX:=jac (jdI B (B+1) y (.slice ia zs.length ic) zs w2 a1 a2 a3 O2.out (by have:=HC2.out.lt;omega) (by have:=HI.out.1;have:=COST.out;omega) YB.out);clear a0 a1 a2 a3 q0 q1 q2 q3 q4 q5 q6 q7 q8
              cases hx:jbc zs y with
              | error c =>
               rw [hx] at TX;have E:Hid (jaw s=.error c):=by show _=_;rw [E0.out,HF.out,jaJ (f:=jaR) (c:=c) (by unfold jaR;rw [if_neg H1.out];rw [if_neg H2.out];rw [if_neg H3.out];rw [if_neg H4.out];rw [if_neg H5.out];rw [if_pos H8.out];rw [hx];rfl)];rfl
               clear hx;refine TX.out.mono ?_;rintro e w3 ⟨hg3,rfl⟩;exact ⟨rfl,jad E.out (jcf O2.out hg3 HC2.out HG2.out HB.out).2.2⟩
              | ok us =>
               rw [hx] at TX;have LZ:=jac (jdd hx);have ES:=jac (HF.out.trans (jay (f:=jaR) (b:=⟨nm,ff,ii,ss,ts,us,kk⟩) (by unfold jaR;rw [if_neg H1.out];rw [if_neg H2.out];rw [if_neg H3.out];rw [if_neg H4.out];rw [if_neg H5.out];rw [if_pos H8.out];rw [hx];rfl)));clear hx;refine TX.out.mono ?_;rintro e w3 ⟨hg3,v',rfl,ho,hfrom⟩;have K3:=jac (jcf O2.out hg3 HC2.out HG2.out HB.out);have S3:=jac (World.ownsRow.kept S2.out hg3 (jh2 S2.out O2.out.1 (by decide)));have A3:=jac ((K3.out.1 bA (Nat.le_of_lt BT.out.1)).trans A2.out);have R3:=jac ((K3.out.1 bR (Nat.le_of_lt BT.out.2)).trans R2.out);obtain ⟨ja,jc,rfl⟩:=ho.form;have O3:=jac ho;clear hg3 ho hfrom TX;obtain ⟨⟨q0,q1,q2,q3,q4,q5,q6,q7,q8⟩,qf0,qf1,qf2,qf3,qf4,qf5,qf6,qf7,qf8⟩:=jau A3.out;go_wp2_with fail;have K4:=jac (jdt (j:=8) (.slice ja us.length jc) K3.out.2.1 K3.out.2.2 O3.out S3.out BL.out.1 BL.out.2.1 BL.out.2.2);have A4:=jac ((jne A3.out (.slice ja us.length jc)).2.2.2.2.2);have R4:=jac ((K4.out.1 bR BN.out (by have:=K3.out.2.1.lt;have:=BT.out;omega)).trans R3.out);clear q0 q1 q2 q3 q4 q5 q6 q7 q8 qf0 qf1 qf2 qf3 qf4 qf5 qf6 qf7 qf8;go_roundg r.length
               case measure=>simp
               case rel=>exact ⟨y,r,⟨nm,ff,ii,ss,ts,us,kk⟩,⟨ja,us.length,jc⟩,rfl,R4.out,A4.out,K4.out.2.2.2.1,K4.out.2.2.2.2,K4.out.2.1,K4.out.2.2.1,ES.out,jd3 (by have:=HI.out.1;have:=COST.out;have:=LZ.out;omega) (by have:=HI.out.2.1;simp at this ⊢;omega) (by have t1:=HI.out.2.2.1;simp only [List.map_cons,jbk] at t1;omega) (HI.out.2.2.2.1) (fun z hz=>HI.out.2.2.2.2 z (List.mem_cons_of_mem _ hz))⟩
             ·have b8:(y.num==8)=false:=by simpa using h8
              have H8:=jac h8;clear h8
              by_cases h20:y.num=20
              ·have b20:(y.num==20)=true:=by simp [h20]
               have H20:=jac h20;clear h20;go_wp2_with fail;have TX:=jac (jcW B y w2 a1 a2);clear a0 a1 a2 a3
               rcases jcq y with ⟨q,hx,hq⟩ | hx
               ·rw [hx] at TX;have ES:=jac (HF.out.trans (jay (f:=jaR) (b:=⟨nm,ff,ii,ss,ts,zs,q⟩) (by unfold jaR;rw [if_neg H1.out];rw [if_neg H2.out];rw [if_neg H3.out];rw [if_neg H4.out];rw [if_neg H5.out];rw [if_neg H8.out];rw [if_pos H20.out];rw [hx];rfl)));have HQ:=jac hq;clear hq;clear hx;refine TX.out.mono ?_;rintro e w3 ⟨hg3,v,rfl,rfl,rfl⟩;obtain ⟨⟨q0,q1,q2,q3,q4,q5,q6,q7,q8⟩,qf0,qf1,qf2,qf3,qf4,qf5,qf6,qf7,qf8⟩:=jau A2.out;go_wp2_with (go_at_call 109;refine (jdW _ _ HQ.out).mono ?_;rintro e w' ⟨rfl,rfl⟩);have K4:=jac (jdt (j:=1) (.int .i64 q) HC2.out HG2.out O2.out S2.out BL.out.1 BL.out.2.1 BL.out.2.2);have A4:=jac ((jne A2.out (.int .i64 q)).2.1);have R4:=jac ((K4.out.1 bR BN.out (by have:=HC2.out.lt;have:=BT.out;omega)).trans R2.out);clear q0 q1 q2 q3 q4 q5 q6 q7 q8 qf0 qf1 qf2 qf3 qf4 qf5 qf6 qf7 qf8;go_roundg r.length
                case measure=>simp
                case rel=>exact ⟨y,r,⟨nm,ff,ii,ss,ts,zs,q⟩,⟨ia,zs.length,ic⟩,rfl,R4.out,A4.out,K4.out.2.2.2.1,K4.out.2.2.2.2,K4.out.2.1,K4.out.2.2.1,ES.out,jd3 (by have:=HI.out.1;have:=COST.out;omega) (by have:=HI.out.2.1;simp at this ⊢;omega) (by have t1:=HI.out.2.2.1;simp only [List.map_cons,jbk] at t1;omega) (HQ.out) (fun z hz=>HI.out.2.2.2.2 z (List.mem_cons_of_mem _ hz))⟩
               ·rw [hx] at TX;have E:Hid (jaw s=.error 3):=by show _=_;rw [E0.out,HF.out,jaJ (f:=jaR) (c:=3) (by unfold jaR;rw [if_neg H1.out];rw [if_neg H2.out];rw [if_neg H3.out];rw [if_neg H4.out];rw [if_neg H5.out];rw [if_neg H8.out];rw [if_pos H20.out];rw [hx];rfl)];rfl
                clear hx;refine TX.out.mono ?_;rintro e w3 ⟨hg3,rfl⟩;exact ⟨rfl,jad E.out (jaa HG2.out hg3)⟩
              ·have b20:(y.num==20)=false:=by simpa using h20
               have H20:=jac h20;clear h20;have ES:=jac (HF.out.trans (jay (f:=jaR) (b:=⟨nm,ff,ii,ss,ts,zs,kk⟩) (by unfold jaR;rw [if_neg H1.out];rw [if_neg H2.out];rw [if_neg H3.out];rw [if_neg H4.out];rw [if_neg H5.out];rw [if_neg H8.out];rw [if_neg H20.out])));clear a1 a2 a3;go_wp2_with fail;clear a0;go_roundg r.length
               case measure=>simp
               case rel=>exact ⟨y,r,⟨nm,ff,ii,ss,ts,zs,kk⟩,⟨ia,zs.length,ic⟩,rfl,R2.out,A2.out,O2.out,S2.out,HC2.out,HG2.out,ES.out,jd3 (by have:=HI.out.1;have:=COST.out;omega) (by have:=HI.out.2.1;simp at this ⊢;omega) (by have t1:=HI.out.2.2.1;simp only [List.map_cons,jbk] at t1;omega) (HI.out.2.2.2.1) (fun z hz=>HI.out.2.2.2.2 z (List.mem_cons_of_mem _ hz))⟩
     ·rw [hc] at O;have E:Hid (jaw s=.error c):=by show _=_;unfold jaw;rw [hc];rfl
      clear hc;go_enter Tryz.func107,Tryz.ntmps107;go_wp2_with fail;rw [← hw0];refine (O.out w0).mono ?_;rintro e w1 ⟨hg1,rfl⟩;exact ⟨rfl,jad E.out (jaa g0 hg1)⟩
end Go.Proofs.YtbgbpfbjeleooaaGreat.Pd
namespace Go.Proofs.YtbgbpfbjeleooaaGreat.Pd
open Go.RowKit
open Wr (Fld)
structure NSt where
 ins:List ByteArray
 outs:List ByteArray
 name:ByteArray
 op:ByteArray
 attrs:List NAtr
 dom:ByteArray
def n0:NSt:=⟨[],[],⟨#[]⟩,⟨#[]⟩,[],⟨#[]⟩⟩
def jaO (s:NSt) (x:Fld):R NSt :=
 if x.num=1 then (jbZ x).bind fun t=>.ok ⟨s.ins++[t],s.outs,s.name,s.op,s.attrs,s.dom⟩
 else if x.num=2 then (jbZ x).bind fun t=>.ok ⟨s.ins,s.outs++[t],s.name,s.op,s.attrs,s.dom⟩
 else if x.num=3 then (jbZ x).bind fun t=>.ok ⟨s.ins,s.outs,t,s.op,s.attrs,s.dom⟩
 else if x.num=4 then (jbZ x).bind fun t=>.ok ⟨s.ins,s.outs,s.name,t,s.attrs,s.dom⟩
 else if x.num=5 then (jbZ x).bind fun t=>(jaw t).bind fun A=>.ok ⟨s.ins,s.outs,s.name,s.op,s.attrs++[A],s.dom⟩
 else if x.num=7 then (jbZ x).bind fun t=>.ok ⟨s.ins,s.outs,s.name,s.op,s.attrs,t⟩
 else .ok s
structure NNod where
 op:ByteArray
 name:ByteArray
 ins:List ByteArray
 out:ByteArray
 attrs:List NAtr
def jj4:ByteArray:=⟨#[97,105,46,111,110,110,120]⟩
def jh4 (t:NSt):R NNod:=(jal (decide (t.dom≠⟨#[]⟩∧t.dom≠jj4)) 5).bind fun _=>(jal (decide (t.outs.length≠1)) 5).bind fun _=>(jal (jas t.ins||jas [t.outs.headD ⟨#[]⟩,t.name,t.op]) 6).bind fun _=>(jal (decide (20<t.ins.length)||decide (20<t.attrs.length)) 6).bind fun _=>.ok ⟨t.op,t.name,t.ins,t.outs.headD ⟨#[]⟩,t.attrs⟩
def jaC (s:ByteArray):R NNod:=(jaX s).bind fun l=>(jaF jaO n0 l).bind jh4
theorem jc1 {α β:Type} {r:R α} {f:α→R β} {b:β} (h:r.bind f=.ok b):∃ a,r=.ok a∧f a=.ok b:=by
 cases r with
 | error c=>cases h
 | ok a=>exact ⟨a,rfl,h⟩
theorem jj5 {b:Bool} {e:Int} {u:Unit} (h:jal b e=.ok u):b=false:=by
 cases b with
 | true=>cases h
 | false=>rfl
theorem jh5 {s:ByteArray} {A:NAtr} (h:jaw s=.ok A):A.s.size≤100:=by
 unfold jaw at h;obtain ⟨l,-,h⟩:=jc1 h;obtain ⟨t,-,h⟩:=jc1 h;unfold jfE at h;obtain ⟨T,-,h⟩:=jc1 h;obtain ⟨C,-,h⟩:=jc1 h;obtain ⟨_,-,h⟩:=jc1 h;obtain ⟨_,h1,h⟩:=jc1 h;have h2:=jj5 h1
 cases h
 simp only [Bool.or_eq_false_iff,jas,List.any_cons,List.any_nil,Bool.or_false,decide_eq_false_iff_not] at h2;omega
def jgT (p:Atr×Cont):NAtr:=jbC p.1 p.2
def NInv (ins outs:List ByteArray) (ps:List (Atr×Cont)) (r:List Fld):Prop:=ins.length+r.length≤16777216∧outs.length+r.length≤16777216∧ps.length+r.length≤16777216∧(∀ p∈ps,p.1.s.size≤100)∧∀ y∈r,y.b.size≤16777216
structure Tri (w:World) (base:Nat) (iv sv av:Value) (ins outs:List ByteArray) (ps:List (Atr×Cont)):Prop where
 oi:jew w base iv ins
 os:jew w base sv outs
 oa:jkX w base av ps
 pis:Pr iv (Ao iv) sv (Ao sv)
 pia:Pr iv (Ao iv) av (Al jgR av ps)
 psa:Pr sv (Ao sv) av (Al jgR av ps)
section
variable {w W w' : World} {base : Nat} {iv sv av : Value} {ins outs : List ByteArray} {ps : List (Atr × Cont)}
theorem Tri.nil (w:World) (base:Nat):Tri w base (.slice none 0 0) (.slice none 0 0) (.slice none 0 0) [] [] [] :=
 ⟨OwnsL.nil ..,OwnsL.nil ..,OwnD.nil (Nat.le_refl _),jnt _ _,jnt _ _,jnt _ _⟩
theorem Tri.new (h:Tri w base iv sv av ins outs ps) (hg:w.grownBy w' none):Tri w' base iv sv av ins outs ps :=
 ⟨h.oi.more hg,h.os.more hg,je1 jde h.oa hg,h.pis,h.pia,h.psa⟩
theorem Tri.box {B:Nat} (h:Tri w base iv sv av ins outs ps) (hg:w.grownBy w' (some B)) (hB:B<base):Tri w' base iv sv av ins outs ps :=
 ⟨h.oi.kept hg (fun g e=>by cases e;exact hB),h.os.kept hg (fun g e=>by cases e;exact hB),je2 jde h.oa hg hB,h.pis,h.pia,h.psa⟩
theorem Tri.seti {iv':Value} {ins':List ByteArray} (h:Tri w base iv sv av ins outs ps) (g1:w.grownBy W none) (g2:W.grownBy w' iv.ownBlock) (ho:jew w' base iv' ins') (hf:jdN w.heap.size iv iv'):Tri w' base iv' sv av ins' outs ps :=
 have k:w.grownBy w' iv.ownBlock:=jbx g1 g2
 ⟨ho,h.os.grow k (fun g e=>h.pis.1 g e),jbt jde h.oa k (fun g e=>h.pia.1 g e),h.pis.step hf (jhl hf) (fun b e=>jd2 h.os b e) (fun b e=>jd2 h.os b e),h.pia.step hf (jhl hf) (fun _ e=>(ja9 h.oa e).2) (fun _ e=>(ja9 h.oa (.inl e)).2),h.psa⟩
theorem Tri.sets {sv':Value} {outs':List ByteArray} (h:Tri w base iv sv av ins outs ps) (g1:w.grownBy W none) (g2:W.grownBy w' sv.ownBlock) (ho:jew w' base sv' outs') (hf:jdN w.heap.size sv sv'):Tri w' base iv sv' av ins outs' ps :=
 have k:w.grownBy w' sv.ownBlock:=jbx g1 g2
 ⟨h.oi.grow k (fun g e=>h.pis.2 g e),ho,jbt jde h.oa k (fun g e=>h.psa.1 g e),(h.pis.symm.step hf (jhl hf) (fun b e=>jd2 h.oi b e) (fun b e=>jd2 h.oi b e)).symm,h.pia,h.psa.step hf (jhl hf) (fun _ e=>(ja9 h.oa e).2) (fun _ e=>(ja9 h.oa (.inl e)).2)⟩
theorem Tri.seta {av':Value} {y:Atr} {c:Cont} (h:Tri w base iv sv av ins outs ps) (g1:w.grownBy W none) (g2:W.grownBy w' av.ownBlock) (ho:jkX w' base av' (ps++[(y,c)])) (hf:jdN w.heap.size av av') (fy:∀ b,jgR y c b→w.heap.size≤b):Tri w' base iv sv av' ins outs (ps++[(y,c)]) :=
 have k:w.grownBy w' av.ownBlock:=jbx g1 g2
 ⟨h.oi.grow k (fun g e=>h.pia.2 g e),h.os.grow k (fun g e=>h.psa.2 g e),ho,h.pis,(h.pia.symm.step hf (jcw hf fy) (fun b e=>jd2 h.oi b e) (fun b e=>jd2 h.oi b e)).symm,(h.psa.symm.step hf (jcw hf fy) (fun b e=>jd2 h.os b e) (fun b e=>jd2 h.os b e)).symm⟩
end
theorem jam {w:World} {B:Nat} {z0 z1 z2 z3 z4:Value} {t:TypeId} (hb:w.heap[B]?=some (.cells #[z0,z1,z2,z3,z4] t (0,0))) :
    (w.cell? ⟨B,0,none⟩=some z0∧w.cell? ⟨B,1,none⟩=some z1∧w.cell? ⟨B,2,none⟩=some z2∧w.cell? ⟨B,3,none⟩=some z3∧w.cell? ⟨B,4,none⟩=some z4)∧w.frozen? ⟨B,0,none⟩=false∧w.frozen? ⟨B,1,none⟩=false∧w.frozen? ⟨B,2,none⟩=false∧w.frozen? ⟨B,3,none⟩=false∧w.frozen? ⟨B,4,none⟩=false :=
     ⟨⟨(cell_of_row _ _ 0 _ _ (0,0) hb).trans rfl,(cell_of_row _ _ 1 _ _ (0,0) hb).trans rfl,(cell_of_row _ _ 2 _ _ (0,0) hb).trans rfl,(cell_of_row _ _ 3 _ _ (0,0) hb).trans rfl,(cell_of_row _ _ 4 _ _ (0,0) hb).trans rfl⟩,frozen_of_row w B 0 _ _ hb,frozen_of_row w B 1 _ _ hb,frozen_of_row w B 2 _ _ hb,frozen_of_row w B 3 _ _ hb,frozen_of_row w B 4 _ _ hb⟩
theorem jfi {w:World} {B:Nat} {z0 z1 z2 z3 z4:Value} {t:TypeId} (hb:w.heap[B]?=some (.cells #[z0,z1,z2,z3,z4] t (0,0))) (a:Value) :
    (w.setCell ⟨B,0,none⟩ a).heap[B]?=some (.cells #[a,z1,z2,z3,z4] t (0,0))∧(w.setCell ⟨B,1,none⟩ a).heap[B]?=some (.cells #[z0,a,z2,z3,z4] t (0,0))∧(w.setCell ⟨B,2,none⟩ a).heap[B]?=some (.cells #[z0,z1,a,z3,z4] t (0,0))∧(w.setCell ⟨B,3,none⟩ a).heap[B]?=some (.cells #[z0,z1,z2,a,z4] t (0,0))∧(w.setCell ⟨B,4,none⟩ a).heap[B]?=some (.cells #[z0,z1,z2,z3,a] t (0,0)) :=
     ⟨by simpa using heap_setCell_same w B 0 _ _ a hb,by simpa using heap_setCell_same w B 1 _ _ a hb,by simpa using heap_setCell_same w B 2 _ _ a hb,by simpa using heap_setCell_same w B 3 _ _ a hb,by simpa using heap_setCell_same w B 4 _ _ a hb⟩
theorem jcx {w w3:World} {lo B b0 j base:Nat} {y:Fld} {r:List Fld} (a:Value) {iv sv av:Value} {ins outs:List ByteArray} {ps:List (Atr×Cont)} (hc:jdo w3 lo B y r) (h0:w.grownBy w3 none) (ht:Tri w3 base iv sv av ins outs ps) (hb:b0<lo) (hw:w.heap.size≤b0) (hl:lo≤base) :
    (∀ b,b≠b0→b<w3.heap.size→(w3.setCell ⟨b0,j,none⟩ a).heap[b]?=w3.heap[b]?)∧jdo (w3.setCell ⟨b0,j,none⟩ a) lo B y r∧w.grownBy (w3.setCell ⟨b0,j,none⟩ a) none∧Tri (w3.setCell ⟨b0,j,none⟩ a) base iv sv av ins outs ps :=
     have hg:=jak w3 b0 j a
     ⟨fun b hne hl=>hg.block b hl (fun e=>hne (Option.some.inj e)),hc.kept hg (fun g e=>.inl (by cases e;exact hb)),jaf h0 hg (fun g e=>.inr (by cases e;exact hw)),ht.box hg (by omega)⟩
theorem jbb {w w2 w3:World} {lo B:Nat} {y:Fld} {r:List Fld} {v:Value} (ho:∀ g,v.ownBlock=some g→B+1≤g) (hg:w2.grownBy w3 v.ownBlock) (hc:jdo w2 lo B y r) (h0:w.grownBy w2 none) (hB:w.heap.size≤B) :
    (∀ b,b≤B→w3.heap[b]?=w2.heap[b]?)∧jdo w3 lo B y r∧w.grownBy w3 none :=
     ⟨fun b hb=>hg.block b (by have:=hc.lt;omega) (fun e=>by have:=ho b e.symm;omega),hc.kept hg (fun g e=>.inr (by have:=ho g e;omega)),jaf h0 hg (fun g e=>.inr (by have:=ho g e;omega))⟩
theorem jen (y:Atr):∀ u∈jbw y,u.oneCell'=true:=by
 intro u hu;simp only [jbw,List.mem_cons,List.not_mem_nil,or_false] at hu
 rcases hu with rfl | rfl | rfl | rfl | rfl | rfl | rfl | rfl | rfl <;> rfl
theorem jmg:(Tryz.prog.info? 78).map (fun i=>(i.zero,i.size,i.bytes))=some (some (.agg #[.string ⟨#[]⟩,.int .i64 0,.int .i64 0,.int .i64 0,.string ⟨#[]⟩,.int .i64 0,.slice none 0 0,.slice none 0 0,.slice none 0 0]),9,136):=by kernel_rfl
def jdO (n:Nod) (q:Ni):NNod:=⟨n.op,n.name,q.ins,n.out,List.zipWith jbC q.xs q.cs⟩
theorem jhn:∀ ps:List (Atr×Cont),List.zipWith jbC (ps.map (·.1)) (ps.map (·.2))=ps.map jgT
 | []=>rfl
 | p::l=>by simp [jhn l,jgT]
theorem jgi {w:World} {base:Nat} {iv sv av:Sl} {ins outs:List ByteArray} {ps:List (Atr×Cont)} {op nam out:ByteArray} (h:Tri w base iv.v sv.v av.v ins outs ps) (hi:ins.length≤20) (hp:ps.length≤20) (hs:∀ p∈ps,p.1.s.size≤100) :
    jmQ w ⟨op,nam,iv,out,av⟩ ⟨ins,ps.map (·.1),ps.map (·.2)⟩∧∀ b,jdS ⟨op,nam,iv,out,av⟩ ⟨ins,ps.map (·.1),ps.map (·.2)⟩ b→base≤b∧b<w.heap.size:=by
     refine ⟨⟨(show IsL 16 1 jbg w iv.v ins from h.oi.isL (bytes:=16) jcr (by omega)),h.oa.own.isL (bytes:=136) jed (by rw [List.length_map];omega),fun j a e=>?_,by simp;omega,fun a ha=>?_⟩,fun b e=>?_⟩
     ·simp only at e;rw [List.getElem?_map] at e
      cases hp:ps[j]? with
      | none=>rw [hp] at e;cases e
      | some p =>
       rw [hp] at e
       cases e
       exact ⟨p.2,by simp only;rw [List.getElem?_map,hp];rfl,h.oa.has p (List.mem_of_getElem? hp)⟩
     ·obtain ⟨p,hp,rfl⟩:=List.mem_map.1 ha;have:=hs p hp;omega
     ·rcases e with e | e | ⟨a,ha,e⟩
      ·exact World.ownsRow.lt h.oi b e
      ·exact ja9 h.oa (.inl e)
      ·obtain ⟨p,hp,rfl⟩:=List.mem_map.1 ha;exact ja9 h.oa (.inr ⟨p,hp,e⟩)
end Go.Proofs.YtbgbpfbjeleooaaGreat.Pd
