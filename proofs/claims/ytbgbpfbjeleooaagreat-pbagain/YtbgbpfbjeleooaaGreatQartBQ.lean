/- A part. -/
import Derived.Test.YtbgbpfbjeleooaaGreatQartBP
namespace Go.Proofs.YtbgbpfbjeleooaaGreat.Pd
open Go.RowKit
open Wr (Fld)
structure TA (A : NAtr) : Prop where
 kind : jck A = .ok A
 long : jaL [A.name, A.s] = false
 few : A.ints.length ≤ 20
 flt : A.kind = 1 → chk 1 A.f = true
 ten : A.kind = 4 → pbE A.ty A.dims A.data = 0
 rd : I64 A.data
 ri : I64 A.ints
 r1 : I64 [A.i]
theorem jgb {A : NAtr} (h : jck A = .ok A) : (A.kind = 1 ∨ A.kind = 2 ∨ A.kind = 3 ∨ A.kind = 4 ∨ A.kind = 7) ∧ (A.kind ≠ 4 → A.ty = 0 ∧ A.dims = [] ∧ A.data = []) ∧ (A.kind ≠ 1 → A.f = 0) := by
 obtain ⟨nm, k, f, i, s, ty, ds, da, is⟩ := A
 unfold jck at h
 simp only at h ⊢
 split at h
 ·simp only [Except.ok.injEq, NAtr.mk.injEq] at h
  exact ⟨by omega, fun _ => ⟨h.2.2.2.2.2.1.symm, h.2.2.2.2.2.2.1.symm, h.2.2.2.2.2.2.2.1.symm⟩, fun k => by omega⟩
 split at h
 ·simp only [Except.ok.injEq, NAtr.mk.injEq] at h
  exact ⟨by omega, fun _ => ⟨h.2.2.2.2.2.1.symm, h.2.2.2.2.2.2.1.symm, h.2.2.2.2.2.2.2.1.symm⟩, fun _ => h.2.2.1.symm⟩
 split at h
 ·simp only [Except.ok.injEq, NAtr.mk.injEq] at h
  exact ⟨by omega, fun _ => ⟨h.2.2.2.2.2.1.symm, h.2.2.2.2.2.2.1.symm, h.2.2.2.2.2.2.2.1.symm⟩, fun _ => h.2.2.1.symm⟩
 split at h
 ·simp only [Except.ok.injEq, NAtr.mk.injEq] at h
  exact ⟨by omega, fun k => by omega, fun _ => h.2.2.1.symm⟩
 split at h
 ·simp only [Except.ok.injEq, NAtr.mk.injEq] at h
  exact ⟨by omega, fun _ => ⟨h.2.2.2.2.2.1.symm, h.2.2.2.2.2.2.1.symm, h.2.2.2.2.2.2.2.1.symm⟩, fun _ => h.2.2.1.symm⟩
 ·cases h
theorem jmS {m : List Fld × Nat} {l : List Fld} {k ty : Int} {ds da : List Int} (h : Lst m l) (hp : k = 4 → pbE ty ds da = 0) (h64 : I64 da) : WP (jkj m k ty ds da) fun m' => ∃ ts, Lst m' (l ++ ts.map (jaW 5)) ∧ ((k = 4 ∧ ∃ s, ts = [s] ∧ jau s = .ok ⟨⟨#[]⟩, ty, ds, da⟩) ∨ (k ≠ 4 ∧ ts = [])) := by
 unfold jkj
 split
 ·rename_i h4
  refine (jil (T := ⟨⟨#[]⟩, ty, ds, da⟩) rfl (hp h4) h64).bind fun s hs => (jdx h (jig (by decide))).mono fun m' hm => ⟨[s], hm, .inl ⟨h4, s, rfl, hs⟩⟩
 ·rename_i h4
  exact ⟨[], by simpa using h, .inr ⟨h4, rfl⟩⟩
theorem jiS {num x : Int} (h : chk 1 x = true) : jcm (jfQ num x) = .ok x := by
 have hx := h
 simp only [chk, if_true, decide_eq_true_eq] at hx
 show Except.ok (jbl (wrap64 (x % 18446744073709551616))) = _
 rw [show wrap64 (x % 18446744073709551616) = x by unfold wrap64; omega]
 unfold jbl
 rw [if_pos h]
theorem jk3 {A : NAtr} (h : TA A) : WP (jal A) fun s => jar s = .ok A := by
 obtain ⟨k0, k1, k2⟩ := jgb h.kind
 have hf : chk 1 A.f = true := by
  by_cases e : A.kind = 1
  ·exact h.flt e
  ·rw [k2 e]; decide
 have hf2 : 0 ≤ A.f ∧ A.f < 4294967296 := by
  have e := hf
  simp only [chk, if_true, decide_eq_true_eq] at e
  omega
 unfold jal
 refine (jem (l := []) Lst.nil (by decide)).bind fun m hm => (jmO hm (by decide) hf2).bind fun m hm => (jhf hm (by decide)).bind fun m hm => (jem hm (by decide)).bind fun m hm => (jmS hm h.ten h.rd).bind fun m ⟨ts, hm, hts⟩ => (jmP hm (by decide)).bind fun m hm => (jhf hm (by decide)).bind fun m hm => (jfb hm).mono fun s hs => ?_
 unfold jar
 rw [hs]
 have hi : -9223372036854775808 ≤ A.i ∧ A.i ≤ 9223372036854775807 := h.r1 A.i (List.mem_singleton.2 rfl)
 have e5 : ∀ (ts : List ByteArray) (a : ASt), jaA jaO a (ts.map (jaW 5)) = .ok ⟨a.name, a.f, a.i, a.s, a.ts ++ ts, a.ints, a.kind⟩ := by
  intro ts
  induction ts with
  | nil => intro a; simp [jaA]
  | cons t ts ih =>
   intro a
   rw [List.map_cons]
   show jaA jaO ⟨a.name, a.f, a.i, a.s, a.ts ++ [t], a.ints, a.kind⟩ (ts.map (jaW 5)) = _
   rw [ih]
   simp
 have k : jaA jaO a0 ([] ++ txF 1 A.name ++ flF 2 A.f ++ nuF 3 A.i ++ txF 4 A.s ++ ts.map (jaW 5) ++ nsF 8 A.ints ++ nuF 20 A.kind) = .ok ⟨A.name, A.f, A.i, A.s, ts, A.ints, A.kind⟩ := by
  rw [List.nil_append]
  simp only [List.append_assoc]
  rw [jbG (b := ⟨A.name, 0, 0, ⟨#[]⟩, [], [], 0⟩) (jdh (fun h0 => by rw [jcR h0]; rfl) rfl),
   jbG (b := ⟨A.name, A.f, 0, ⟨#[]⟩, [], [], 0⟩) (jkZ (fun h0 => by rw [h0]) (by
    unfold jaO
    rw [if_neg (show ¬ (jfQ 2 A.f).num = 1 by show ¬ (2 : Int) = 1; decide), if_pos (show (jfQ 2 A.f).num = 2 from rfl), jiS hf]
    rfl)),
   jbG (b := ⟨A.name, A.f, A.i, ⟨#[]⟩, [], [], 0⟩) (jeN (fun h0 => by rw [h0]) (by
    unfold jaO
    rw [if_neg (show ¬ (je0 3 A.i).num = 1 by show ¬ (3 : Int) = 1; decide), if_neg (show ¬ (je0 3 A.i).num = 2 by show ¬ (3 : Int) = 2; decide), if_pos (show (je0 3 A.i).num = 3 from rfl), jd6 hi]
    rfl)),
   jbG (b := ⟨A.name, A.f, A.i, A.s, [], [], 0⟩) (jdh (fun h0 => by rw [jcR h0]) rfl),
   jbG (b := ⟨A.name, A.f, A.i, A.s, ts, [], 0⟩) (e5 ts _),
   jbG (b := ⟨A.name, A.f, A.i, A.s, ts, A.ints, 0⟩) (jjU (fun h0 => by rw [h0]) (by
    have hn : (jbF 8 A.ints).num = 8 := by unfold jbF; split <;> rfl
    unfold jaO
    rw [hn, if_neg (by decide), if_neg (by decide), if_neg (by decide), if_neg (by decide), if_neg (by decide), if_pos rfl, jc1 h.ri]
    rfl))]
  exact jeN (fun h0 => by rw [h0]) (by
   unfold jaO
   have hn : (je0 20 A.kind).num = 20 := rfl
   rw [hn, if_neg (by decide), if_neg (by decide), if_neg (by decide), if_neg (by decide), if_neg (by decide), if_neg (by decide), if_pos rfl, jd6 (by omega)]
   rfl)
 show (jaA jaO a0 _).bind _ = _
 rw [k]
 show jeF _ = _
 obtain ⟨T, hT, hA⟩ : ∃ T, jgZ ts = .ok T ∧ (⟨A.name, A.kind, A.f, A.i, A.s, T.ty, T.dims, T.data, A.ints⟩ : NAtr) = A := by
  rcases hts with ⟨h4, s2, rfl, hs2⟩ | ⟨h4, rfl⟩
  ·refine ⟨⟨⟨#[]⟩, A.ty, A.dims, A.data⟩, ?_, rfl⟩
   unfold jgZ
   rw [if_neg (by simp), jeM]
   exact hs2
  ·obtain ⟨e1, e2, e3⟩ := k1 h4
   refine ⟨jmv, rfl, ?_⟩
   have e : ∀ B : NAtr, B.ty = 0 → B.dims = [] → B.data = [] → (⟨B.name, B.kind, B.f, B.i, B.s, 0, [], [], B.ints⟩ : NAtr) = B := by
    rintro ⟨a, b, c, d, e, f, g, h, i⟩ h1 h2 h3
    simp only at h1 h2 h3
    rw [h1, h2, h3]
   exact e A e1 e2 e3
 unfold jeF
 rw [hT]
 show (jck _).bind _ = _
 simp only
 rw [hA, h.kind]
 show (jai (decide (A.kind = 4) && ts.length == 0) 4).bind _ = _
 rw [show (decide (A.kind = 4) && ts.length == 0) = false by
  rcases hts with ⟨h4, s, rfl, hs⟩ | ⟨h4, rfl⟩
  ·simp
  ·rw [decide_eq_false h4]; rfl]
 show (jai (jaL [A.name, A.s] || decide (20 < A.ints.length)) 6).bind _ = _
 rw [h.long, decide_eq_false (by have := h.few; omega)]
 rfl
structure TN (N : NNod) : Prop where
 li : jaL N.ins = false
 ln : jaL [N.out, N.name, N.op] = false
 fi : N.ins.length ≤ 20
 fa : N.attrs.length ≤ 20
 at' : ∀ A ∈ N.attrs, TA A
theorem jgc : ∀ (l : List ByteArray) (a : NSt), l.foldl (fun s t => (⟨s.ins ++ [t], s.outs, s.name, s.op, s.attrs, s.dom⟩ : NSt)) a = ⟨a.ins ++ l, a.outs, a.name, a.op, a.attrs, a.dom⟩
 | [], a => by simp
 | x :: l, a => by rw [List.foldl_cons, jgc l]; simp
theorem jgd : ∀ (l : List NAtr) (a : NSt), l.foldl (fun s t => (⟨s.ins, s.outs, s.name, s.op, s.attrs ++ [t], s.dom⟩ : NSt)) a = ⟨a.ins, a.outs, a.name, a.op, a.attrs ++ l, a.dom⟩
 | [], a => by simp
 | x :: l, a => by rw [List.foldl_cons, jgd l]; simp
theorem jk4 {N : NNod} (h : TN N) : WP (jaD N) fun s => jaw s = .ok N := by
 unfold jaD
 refine (jdS (f := fun s => .ok s) (P := fun (a b : ByteArray) => b = a) (by decide) N.ins Lst.nil (fun x _ => (rfl : x = x))).bind fun m ⟨ss, h1, hm⟩ => (jdx hm (jig (by decide))).bind fun m hm => (jem hm (by decide)).bind fun m hm => (jem hm (by decide)).bind fun m hm => (jdS (P := fun A s => jar s = .ok A) (by decide) N.attrs hm (fun A hA => jk3 (h.at' A hA))).bind fun m ⟨ats, h2, hm⟩ => (jfb hm).mono fun s hs => ?_
 unfold jaw
 rw [hs]
 have k : jaA jaM n0 ([] ++ ss.map (jaW 1) ++ [jaW 2 N.out] ++ txF 3 N.name ++ txF 4 N.op ++ ats.map (jaW 5)) = .ok ⟨N.ins, [N.out], N.name, N.op, N.attrs, ⟨#[]⟩⟩ := by
  rw [List.nil_append]
  simp only [List.append_assoc]
  have e1 : jaA jaM n0 (ss.map (jaW 1)) = .ok ⟨N.ins, [], ⟨#[]⟩, ⟨#[]⟩, [], ⟨#[]⟩⟩ := by
   rw [jcB (P := fun (a b : ByteArray) => b = a) (fun s t => (⟨s.ins ++ [t], s.outs, s.name, s.op, s.attrs, s.dom⟩ : NSt)) (fun a x s e => by rw [e]; rfl) h1, jgc]
   rfl
  rw [jbG e1, jbG (b := ⟨N.ins, [N.out], ⟨#[]⟩, ⟨#[]⟩, [], ⟨#[]⟩⟩) (jdu rfl),
   jbG (b := ⟨N.ins, [N.out], N.name, ⟨#[]⟩, [], ⟨#[]⟩⟩) (jdh (fun h0 => by rw [jcR h0]) rfl),
   jbG (b := ⟨N.ins, [N.out], N.name, N.op, [], ⟨#[]⟩⟩) (jdh (fun h0 => by rw [jcR h0]) rfl),
   jcB (P := fun A s => jar s = .ok A) (fun s t => (⟨s.ins, s.outs, s.name, s.op, s.attrs ++ [t], s.dom⟩ : NSt)) (fun a A s e => by show (jar s).bind _ = _; rw [e]; rfl) h2, jgd]
  rfl
 show (jaA jaM n0 _).bind _ = _
 rw [k]
 show (jai (jaL N.ins || jaL [N.out, N.name, N.op]) 6).bind _ = _
 rw [h.li, h.ln]
 show (jai (decide (20 < N.ins.length) || decide (20 < N.attrs.length)) 6).bind _ = _
 rw [decide_eq_false (by have := h.fi; omega), decide_eq_false (by have := h.fa; omega)]
 rfl
structure TT (T : NTen) : Prop where
 long : jaL [T.name] = false
 ok : pbE T.ty T.dims T.data = 0
 rd : I64 T.data
structure TV (V : NVal) : Prop where
 long : jaL [V.name] = false
 ty : chk V.ty 0 = true
 ok : jcW V.dims = 0
structure TG (G : NGra) : Prop where
 long : jaL [G.name] = false
 few : jeG G.nodes.length G.ins.length G.outs.length G.inits.length = false
 nodes : ∀ N ∈ G.nodes, TN N
 inits : ∀ T ∈ G.inits, TT T
 ins : ∀ V ∈ G.ins, TV V
 outs : ∀ V ∈ G.outs, TV V
theorem jge : ∀ (l : List NNod) (a : NGra), l.foldl (fun s t => (⟨s.name, s.nodes ++ [t], s.ins, s.outs, s.inits⟩ : NGra)) a = ⟨a.name, a.nodes ++ l, a.ins, a.outs, a.inits⟩
 | [], a => by simp
 | x :: l, a => by rw [List.foldl_cons, jge l]; simp
theorem jgf : ∀ (l : List NTen) (a : NGra), l.foldl (fun s t => (⟨s.name, s.nodes, s.ins, s.outs, s.inits ++ [t]⟩ : NGra)) a = ⟨a.name, a.nodes, a.ins, a.outs, a.inits ++ l⟩
 | [], a => by simp
 | x :: l, a => by rw [List.foldl_cons, jgf l]; simp
theorem jfM : ∀ (l : List NVal) (a : NGra), l.foldl (fun s t => (⟨s.name, s.nodes, s.ins ++ [t], s.outs, s.inits⟩ : NGra)) a = ⟨a.name, a.nodes, a.ins ++ l, a.outs, a.inits⟩
 | [], a => by simp
 | x :: l, a => by rw [List.foldl_cons, jfM l]; simp
theorem jfN : ∀ (l : List NVal) (a : NGra), l.foldl (fun s t => (⟨s.name, s.nodes, s.ins, s.outs ++ [t], s.inits⟩ : NGra)) a = ⟨a.name, a.nodes, a.ins, a.outs ++ l, a.inits⟩
 | [], a => by simp
 | x :: l, a => by rw [List.foldl_cons, jfN l]; simp
theorem jk5 {G : NGra} (h : TG G) : WP (jam G) fun s => ∃ l, ja1 s = .ok l ∧ ∀ a : NGra, jaA jat a l = .ok ⟨if G.name.size = 0 then a.name else G.name, a.nodes ++ G.nodes, a.ins ++ G.ins, a.outs ++ G.outs, a.inits ++ G.inits⟩ := by
 unfold jam
 refine (jdS (P := fun A s => jaw s = .ok A) (by decide) G.nodes Lst.nil (fun A hA => jk4 (h.nodes A hA))).bind fun m ⟨ns, h1, hm⟩ => (jem hm (by decide)).bind fun m hm => (jdS (P := fun A s => jau s = .ok A) (by decide) G.inits hm (fun A hA => jil (h.inits A hA).long (h.inits A hA).ok (h.inits A hA).rd)).bind fun m ⟨ts, h5, hm⟩ => (jdS (P := fun A s => jaC s = .ok A) (by decide) G.ins hm (fun A hA => jii (h.ins A hA).long (h.ins A hA).ty (h.ins A hA).ok)).bind fun m ⟨is, h11, hm⟩ => (jdS (P := fun A s => jaC s = .ok A) (by decide) G.outs hm (fun A hA => jii (h.outs A hA).long (h.outs A hA).ty (h.outs A hA).ok)).bind fun m ⟨os, h12, hm⟩ => (jfb hm).mono fun s hs => ⟨_, hs, fun a => ?_⟩
 rw [List.nil_append]
 simp only [List.append_assoc]
 rw [jbG (jcB (P := fun A s => jaw s = .ok A) (fun s t => (⟨s.name, s.nodes ++ [t], s.ins, s.outs, s.inits⟩ : NGra)) (fun a A s e => by show (jaw s).bind _ = _; rw [e]; rfl) h1 a), jge,
  jbG (b := ⟨if G.name.size = 0 then a.name else G.name, a.nodes ++ G.nodes, a.ins, a.outs, a.inits⟩) (by
   unfold txF
   split
   ·rfl
   ·exact jdu rfl),
  jbG (jcB (P := fun A s => jau s = .ok A) (fun s t => (⟨s.name, s.nodes, s.ins, s.outs, s.inits ++ [t]⟩ : NGra)) (fun a A s e => by show (jau s).bind _ = _; rw [e]; rfl) h5 _), jgf,
  jbG (jcB (P := fun A s => jaC s = .ok A) (fun s t => (⟨s.name, s.nodes, s.ins ++ [t], s.outs, s.inits⟩ : NGra)) (fun a A s e => by show (jaC s).bind _ = _; rw [e]; rfl) h11 _), jfM,
  jcB (P := fun A s => jaC s = .ok A) (fun s t => (⟨s.name, s.nodes, s.ins, s.outs ++ [t], s.inits⟩ : NGra)) (fun a A s e => by show (jaC s).bind _ = _; rw [e]; rfl) h12, jfN]
theorem jmT {G : NGra} (h : TG G) : jec G = .ok G := by
 unfold jec
 rw [h.long, h.few]
 rfl
theorem jk6 {G : NGra} (h : TG G) : WP (jaH G) fun s => ∃ t l, ja1 s = .ok [jaW 7 t] ∧ ja1 t = .ok l ∧ ∀ a : NGra, jaA jat a l = .ok ⟨if G.name.size = 0 then a.name else G.name, a.nodes ++ G.nodes, a.ins ++ G.ins, a.outs ++ G.outs, a.inits ++ G.inits⟩ := by
 unfold jaH
 refine (jk5 h).bind fun t ⟨l, h1, h2⟩ => (jdx (l := []) Lst.nil (jig (by decide))).bind fun m hm => (jfb hm).mono fun s hs => ⟨t, l, hs, h1, h2⟩
theorem jim {G : NGra} (h : TG G) : WP (jaH G) fun s => jaK s = .ok G := by
 refine (jk6 h).mono fun s ⟨t, l, h1, h2, h3⟩ => ?_
 unfold jaK
 rw [h1]
 show jaG (jbP [t]) = _
 rw [jeM]
 unfold jaG
 rw [h2]
 show (jaA jat g0 l).bind jec = _
 rw [h3]
 have e : (⟨if G.name.size = 0 then g0.name else G.name, g0.nodes ++ G.nodes, g0.ins ++ G.ins, g0.outs ++ G.outs, g0.inits ++ G.inits⟩ : NGra) = G := by
  have e1 : (if G.name.size = 0 then g0.name else G.name) = G.name := by
   split
   ·rename_i h0; rw [jcR h0]; rfl
   ·rfl
  rw [e1]
  rfl
 show jec _ = _
 rw [e]
 exact jmT h
end Go.Proofs.YtbgbpfbjeleooaaGreat.Pd
namespace Go.Proofs.YtbgbpfbjeleooaaGreat.Pd
open Go.RowKit
open Wr (Fld)
theorem jeO {σ : Type} {f : σ → Fld → R σ} {P : σ → Prop} (hs : ∀ a x b, f a x = .ok b → P a → P b) : ∀ (l : List Fld) {a b : σ}, jaA f a l = .ok b → P a → P b
 | [], a, b, h, k => by cases h; exact k
 | x :: l, a, b, h, k => by
  obtain ⟨c, h1, h2⟩ := jaj (show (f a x).bind _ = .ok b from h)
  exact jeO hs l h2 (hs a x c h1 k)
theorem jin {e : Int} {u : Unit} (h : jdy e = .ok u) : e = 0 := by
 unfold jdy at h
 split at h
 ·assumption
 ·cases h
def R64 (x : Int) : Prop := -9223372036854775808 ≤ x ∧ x ≤ 9223372036854775807
theorem jio {x : Fld} {y : Int} (h : jbx x = .ok y) : R64 y := by
 rcases jbR x with ⟨z, k, r⟩ | k
 ·rw [k] at h; cases h; exact r
 ·rw [k] at h; cases h
theorem jlF {b : Int} (h : R64 b) : R64 (jbl b) := by
 unfold jbl
 split
 ·exact h
 ·exact ⟨by decide, by decide⟩
theorem jk7 (b : Int) : chk 1 (jbl b) = true := by
 unfold jbl
 split
 ·assumption
 ·decide
theorem jjX {x : Fld} {y : Int} (h : jcm x = .ok y) : R64 y ∧ chk 1 y = true := by
 unfold jcm at h
 obtain ⟨_, -, h⟩ := jaj h
 cases h
 exact ⟨jlF (jbB _), jk7 _⟩
theorem jjY (t u : Int) : R64 (jbt t u) := by
 unfold jbt
 split
 ·exact jlF (jbB _)
 split
 ·exact jbB _
 ·exact jbB _
theorem jjZ (t : Int) (w : Nat) (s : ByteArray) : ∀ n p, I64 (jcE t w s n p)
 | 0, _ => fun x hx => by cases hx
 | n + 1, p => fun x hx => by
  rcases List.mem_cons.1 hx with rfl | hx
  ·exact jjY _ _
  ·exact jjZ t w s n _ x hx
theorem jgg (t : Int) (s : ByteArray) : I64 (jbi t s) := by
 unfold jbi
 split
 ·exact jjZ _ _ _ _ _
 ·exact fun x hx => by cases hx
theorem jgG {a b : List Int} (ha : I64 a) (hb : I64 b) : I64 (a ++ b) := fun x hx => (List.mem_append.1 hx).elim (ha x) (hb x)
theorem jfO {a l : List Int} {x : Fld} (h : jaX a x = .ok l) (ha : I64 a) : I64 l := by
 unfold jaX at h
 split at h
 ·obtain ⟨y, h1, h2⟩ := jaj h
  cases h2
  exact jgG ha fun z hz => by rw [List.mem_singleton.1 hz]; exact jio h1
 ·obtain ⟨y, h1, h2⟩ := jaj h
  cases h2
  refine jgG ha fun z hz => ?_
  unfold jcK at h1
  split at h1
  ·cases h1
  ·cases h1
   obtain ⟨u, -, rfl⟩ := List.mem_map.1 hz
   exact jbB _
theorem jk8 {a l : List Int} {x : Fld} (h : jbA a x = .ok l) (ha : I64 a) : I64 l := by
 unfold jbA at h
 split at h
 ·obtain ⟨y, h1, h2⟩ := jaj h
  cases h2
  exact jgG ha fun z hz => by rw [List.mem_singleton.1 hz]; exact (jjX h1).1
 ·obtain ⟨_, -, h2⟩ := jaj h
  cases h2
  exact jgG ha (jgg _ _)
def P64 (p : Prt) : Prop := I64 p.fl ∧ I64 p.i32 ∧ I64 p.i64
theorem jk9 {a b : TSt} {x : Fld} (h : jaN a x = .ok b) (k : P64 a.p) : P64 b.p := by
 unfold jaN at h
 split at h
 ·obtain ⟨_, -, h⟩ := jaj h; cases h; exact k
 split at h
 ·obtain ⟨_, -, h⟩ := jaj h; cases h; exact k
 split at h
 ·obtain ⟨_, h1, h⟩ := jaj h; cases h; exact ⟨jk8 h1 k.1, k.2⟩
 split at h
 ·obtain ⟨_, h1, h⟩ := jaj h; cases h; exact ⟨k.1, jfO h1 k.2.1, k.2.2⟩
 split at h
 ·obtain ⟨_, h1, h⟩ := jaj h; cases h; exact ⟨k.1, k.2.1, jfO h1 k.2.2⟩
 split at h
 ·obtain ⟨_, -, h⟩ := jaj h; cases h; exact k
 split at h
 ·obtain ⟨_, -, h⟩ := jaj h; cases h; exact k
 ·cases h; exact k
theorem jct : I64 [] := fun x hx => by cases hx
theorem jip {s : ByteArray} {T : NTen} (h : jau s = .ok T) : TT T := by
 unfold jau at h
 obtain ⟨l, -, h⟩ := jaj h
 obtain ⟨t, h1, h⟩ := jaj h
 obtain ⟨_, h2, h⟩ := jaj h
 obtain ⟨_, h3, h⟩ := jaj h
 cases h
 have k : P64 t.p := jeO (P := fun t => P64 t.p) (fun a x b => jk9) l h1 ⟨jct, jct, jct⟩
 refine ⟨jbZ h3, jin h2, ?_⟩
 show I64 (jdd t.ty t.p)
 unfold jdd
 split
 ·exact jgg _ _
 split
 ·exact k.1
 split
 ·exact k.2.2
 ·exact k.2.1
theorem jiq {s : ByteArray} {V : NVal} (h : jaC s = .ok V) : TV V := by
 unfold jaC at h
 obtain ⟨l, -, h⟩ := jaj h
 obtain ⟨t, -, h⟩ := jaj h
 obtain ⟨_, -, h⟩ := jaj h
 obtain ⟨⟨ty, ds⟩, h1, h⟩ := jaj h
 obtain ⟨_, h2, h⟩ := jaj h
 cases h
 unfold ja5 at h1
 obtain ⟨_, -, h1⟩ := jaj h1
 obtain ⟨_, -, h1⟩ := jaj h1
 obtain ⟨_, -, h1⟩ := jaj h1
 obtain ⟨_, h3, h1⟩ := jaj h1
 cases h1
 unfold jao at h3
 obtain ⟨_, -, h3⟩ := jaj h3
 obtain ⟨_, -, h3⟩ := jaj h3
 obtain ⟨_, -, h3⟩ := jaj h3
 obtain ⟨_, -, h3⟩ := jaj h3
 obtain ⟨_, h4, h3⟩ := jaj h3
 obtain ⟨_, h5, h3⟩ := jaj h3
 cases h3
 exact ⟨jbZ h2, by have := jbZ h4; simpa using this, jin h5⟩
def Q64 (a : ASt) : Prop := chk 1 a.f = true ∧ R64 a.i ∧ I64 a.ints
theorem jla {a b : ASt} {x : Fld} (h : jaO a x = .ok b) (k : Q64 a) : Q64 b := by
 unfold jaO at h
 split at h
 ·obtain ⟨_, -, h⟩ := jaj h; cases h; exact k
 split at h
 ·obtain ⟨_, h1, h⟩ := jaj h; cases h; exact ⟨(jjX h1).2, k.2⟩
 split at h
 ·obtain ⟨_, h1, h⟩ := jaj h; cases h; exact ⟨k.1, jio h1, k.2.2⟩
 split at h
 ·obtain ⟨_, -, h⟩ := jaj h; cases h; exact k
 split at h
 ·obtain ⟨_, -, h⟩ := jaj h; cases h; exact k
 split at h
 ·obtain ⟨_, h1, h⟩ := jaj h; cases h; exact ⟨k.1, k.2.1, jfO h1 k.2.2⟩
 split at h
 ·obtain ⟨_, -, h⟩ := jaj h; cases h; exact k
 ·cases h; exact k
theorem jiT {B A : NAtr} (h : jck B = .ok A) : jck A = .ok A := by
 unfold jck at h
 split at h
 ·rename_i k; cases h; unfold jck; rw [if_pos k]
 split at h
 ·rename_i k1 k; cases h; unfold jck; rw [if_neg k1, if_pos k]
 split at h
 ·rename_i k1 k2 k; cases h; unfold jck; rw [if_neg k1, if_neg k2, if_pos k]
 split at h
 ·rename_i k1 k2 k3 k; cases h; unfold jck; rw [if_neg k1, if_neg k2, if_neg k3, if_pos k]
 split at h
 ·rename_i k1 k2 k3 k4 k; cases h; unfold jck; rw [if_neg k1, if_neg k2, if_neg k3, if_neg k4, if_pos k]
 ·cases h
theorem jma {B A : NAtr} (h : jck B = .ok A) (hf : chk 1 B.f = true) (hi : R64 B.i) (hs : I64 B.ints) (hd : I64 B.data) (hp : B.kind = 4 → pbE B.ty B.dims B.data = 0) : (A.kind = 1 → chk 1 A.f = true) ∧ (A.kind = 4 → pbE A.ty A.dims A.data = 0) ∧ I64 A.data ∧ I64 A.ints ∧ I64 [A.i] := by
 have r0 : I64 [0] := fun x hx => by rw [List.mem_singleton.1 hx]; exact ⟨by decide, by decide⟩
 have ri : I64 [B.i] := fun x hx => by rw [List.mem_singleton.1 hx]; exact hi
 unfold jck at h
 split at h
 ·rename_i k; cases h; exact ⟨fun _ => hf, fun e => by simp only at e; omega, jct, jct, r0⟩
 split at h
 ·rename_i k1 k; cases h; exact ⟨fun e => by simp only at e; omega, fun e => by simp only at e; omega, jct, jct, ri⟩
 split at h
 ·rename_i k1 k2 k; cases h; exact ⟨fun e => by simp only at e; omega, fun e => by simp only at e; omega, jct, jct, r0⟩
 split at h
 ·rename_i k1 k2 k3 k; cases h; exact ⟨fun e => by simp only at e; omega, fun e => hp k, hd, jct, r0⟩
 split at h
 ·rename_i k1 k2 k3 k4 k; cases h; exact ⟨fun e => by simp only at e; omega, fun e => by simp only at e; omega, jct, hs, r0⟩
 ·cases h
theorem jj0 {B A : NAtr} (h : jck B = .ok A) : A.kind = B.kind := by
 unfold jck at h
 split at h
 ·cases h; rfl
 split at h
 ·cases h; rfl
 split at h
 ·cases h; rfl
 split at h
 ·cases h; rfl
 split at h
 ·cases h; rfl
 ·cases h
theorem jlb {s : ByteArray} {A : NAtr} (h : jar s = .ok A) : TA A := by
 unfold jar at h
 obtain ⟨l, -, h⟩ := jaj h
 obtain ⟨t, h1, h⟩ := jaj h
 have k : Q64 t := jeO (P := Q64) (fun a x b => jla) l h1 ⟨by decide, ⟨by decide, by decide⟩, jct⟩
 unfold jeF at h
 obtain ⟨T, h2, h⟩ := jaj h
 obtain ⟨B, h3, h⟩ := jaj h
 obtain ⟨_, h4, h⟩ := jaj h
 obtain ⟨_, h5, h⟩ := jaj h
 cases h
 have k4 := jbZ h4
 have k5 := jbZ h5
 rw [Bool.or_eq_false_iff] at k5
 have hT : I64 T.data ∧ (t.kind = 4 → pbE T.ty T.dims T.data = 0) := by
  unfold jgZ at h2
  split at h2
  ·rename_i h0
   cases h2
   refine ⟨jct, fun e => ?_⟩
   have e2 : A.kind = 4 := (jj0 h3).trans e
   rw [e2, h0] at k4
   cases k4
  ·have := jip h2
   exact ⟨this.rd, fun _ => this.ok⟩
 obtain ⟨r1, r2, r3, r4, r5⟩ := jma h3 k.1 k.2.1 k.2.2 hT.1 hT.2
 exact ⟨jiT h3, k5.1, by have := k5.2; simp at this; omega, r1, r2, r3, r4, r5⟩
theorem jlc {a b : NSt} {x : Fld} (h : jaM a x = .ok b) (k : ∀ A ∈ a.attrs, TA A) : ∀ A ∈ b.attrs, TA A := by
 unfold jaM at h
 split at h
 ·obtain ⟨_, -, h⟩ := jaj h; cases h; exact k
 split at h
 ·obtain ⟨_, -, h⟩ := jaj h; cases h; exact k
 split at h
 ·obtain ⟨_, -, h⟩ := jaj h; cases h; exact k
 split at h
 ·obtain ⟨_, -, h⟩ := jaj h; cases h; exact k
 split at h
 ·obtain ⟨_, -, h⟩ := jaj h
  obtain ⟨B, h1, h⟩ := jaj h
  cases h
  intro A hA
  rcases List.mem_append.1 hA with e | e
  ·exact k A e
  ·rw [List.mem_singleton.1 e]; exact jlb h1
 split at h
 ·obtain ⟨_, -, h⟩ := jaj h; cases h; exact k
 ·cases h; exact k
theorem jld {s : ByteArray} {N : NNod} (h : jaw s = .ok N) : TN N := by
 unfold jaw at h
 obtain ⟨l, -, h⟩ := jaj h
 obtain ⟨t, h1, h⟩ := jaj h
 have k : ∀ A ∈ t.attrs, TA A := jeO (P := fun t => ∀ A ∈ NSt.attrs t, TA A) (fun a x b => jlc) l h1 (fun A hA => by cases hA)
 unfold jf4 at h
 obtain ⟨_, -, h⟩ := jaj h
 obtain ⟨_, -, h⟩ := jaj h
 obtain ⟨_, h2, h⟩ := jaj h
 obtain ⟨_, h3, h⟩ := jaj h
 cases h
 have k2 := jbZ h2
 have k3 := jbZ h3
 rw [Bool.or_eq_false_iff] at k2 k3
 exact ⟨k2.1, k2.2, by have := k3.1; simp at this; exact this, by have := k3.2; simp at this; exact this, k⟩
structure SG (G : NGra) : Prop where
 nodes : ∀ N ∈ G.nodes, TN N
 inits : ∀ T ∈ G.inits, TT T
 ins : ∀ V ∈ G.ins, TV V
 outs : ∀ V ∈ G.outs, TV V
theorem jfn {α : Type} {P : α → Prop} {l : List α} {x : α} (h : ∀ y ∈ l, P y) (hx : P x) : ∀ y ∈ l ++ [x], P y := fun y hy => (List.mem_append.1 hy).elim (h y) fun e => by rw [List.mem_singleton.1 e]; exact hx
theorem jle {a b : NGra} {x : Fld} (h : jat a x = .ok b) (k : SG a) : SG b := by
 obtain ⟨k1, k2, k3, k4⟩ := k
 unfold jat at h
 split at h
 ·obtain ⟨_, -, h⟩ := jaj h; obtain ⟨_, e, h⟩ := jaj h; cases h; exact ⟨jfn k1 (jld e), k2, k3, k4⟩
 split at h
 ·obtain ⟨_, -, h⟩ := jaj h; cases h; exact ⟨k1, k2, k3, k4⟩
 split at h
 ·obtain ⟨_, -, h⟩ := jaj h; obtain ⟨_, e, h⟩ := jaj h; cases h; exact ⟨k1, jfn k2 (jip e), k3, k4⟩
 split at h
 ·obtain ⟨_, -, h⟩ := jaj h; obtain ⟨_, e, h⟩ := jaj h; cases h; exact ⟨k1, k2, jfn k3 (jiq e), k4⟩
 split at h
 ·obtain ⟨_, -, h⟩ := jaj h; obtain ⟨_, e, h⟩ := jaj h; cases h; exact ⟨k1, k2, k3, jfn k4 (jiq e)⟩
 ·cases h; exact ⟨k1, k2, k3, k4⟩
theorem jlf {s : ByteArray} {G : NGra} (h : jaG s = .ok G) : TG G := by
 unfold jaG at h
 obtain ⟨l, -, h⟩ := jaj h
 obtain ⟨t, h1, h⟩ := jaj h
 have k : SG t := jeO (P := SG) (fun a x b => jle) l h1 ⟨fun A hA => (by cases hA), fun A hA => (by cases hA), fun A hA => (by cases hA), fun A hA => (by cases hA)⟩
 unfold jec at h
 obtain ⟨_, h2, h⟩ := jaj h
 cases h
 have k2 := jbZ h2
 rw [Bool.or_eq_false_iff] at k2
 exact ⟨k2.1, k2.2, k.nodes, k.inits, k.ins, k.outs⟩
theorem jlg {s : ByteArray} {G : NGra} (h : jaK s = .ok G) : TG G := by
 unfold jaK at h
 obtain ⟨l, -, h⟩ := jaj h
 obtain ⟨t, -, h⟩ := jaj h
 obtain ⟨_, -, h⟩ := jaj h
 exact jlf h
end Go.Proofs.YtbgbpfbjeleooaaGreat.Pd
namespace Go.Proofs.YtbgbpfbjeleooaaGreat.Pd
open Go.RowKit
open Wr (Fld)
def jd7 : ByteArray := ⟨#[58, 51, 10, 12, 10, 1, 120, 18, 1, 121, 34, 4, 82, 101, 108, 117, 18, 1, 103, 90, 15, 10, 1, 120, 18, 10, 10, 8, 8, 1, 18, 4, 10, 2, 8, 2, 98, 15, 10, 1, 121, 18, 10, 10, 8, 8, 1, 18, 4, 10, 2, 8, 2]⟩
def jc3 (s : Sl) : List (Nod × Ni) := [(⟨⟨#[82, 101, 108, 117]⟩, ⟨#[]⟩, s, ⟨#[121]⟩, ⟨none, 0, 0⟩⟩, ⟨[⟨#[120]⟩], [], []⟩)]
def jc4 (s : Sl) : List (Val × List Int) := [(⟨⟨#[120]⟩, 1, s⟩, [2])]
def jc5 (s : Sl) : List (Val × List Int) := [(⟨⟨#[121]⟩, 1, s⟩, [2])]
def jj1 : NGra := ⟨⟨#[103]⟩, [⟨⟨#[82, 101, 108, 117]⟩, ⟨#[]⟩, [⟨#[120]⟩], ⟨#[121]⟩, []⟩], [⟨⟨#[120]⟩, 1, [2]⟩], [⟨⟨#[121]⟩, 1, [2]⟩], []⟩
theorem jiU (nv iv ov tv s1 s2 s3 : Sl) : jhd ⟨⟨#[103]⟩, nv, iv, ov, tv⟩ (jc3 s1) (jc4 s2) (jc5 s3) [] = true := by kernel_rfl
theorem jj2 : jaH jj1 = .ok jd7 := by kernel_rfl
theorem jiV : jaK jd7 = .ok jj1 := by kernel_rfl
theorem jj3 : jaK ⟨#[58, 0]⟩ = .ok ⟨⟨#[]⟩, [], [], [], []⟩ := by kernel_rfl
theorem jj4 : jaK ⟨#[56, 1]⟩ = .error 3 := by kernel_rfl
theorem jiW : jaK ⟨#[]⟩ = .error 4 := by kernel_rfl
end Go.Proofs.YtbgbpfbjeleooaaGreat.Pd
