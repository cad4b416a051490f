/- What things are called, and where lists lie, makes no difference: plain facts. -/
import Derived.Test.YtdcbjikjeicgbaaGreatDoorPartU
namespace Go.Proofs.YtdcbjikjeicgbaaGreatDoor

/-- Two nodes' attributes that are the same but for where they lie. -/
structure SameAt (A B : At) : Prop where
  op : B.op = A.op
  int : ∀ nm z, B.int nm z = A.int nm z
  ints : ∀ nm zs, B.ints nm zs = A.ints nm zs
  vty : (valA B).ty = (valA A).ty
  vd : valD B = valD A
  thn : thenL (B.xs.find? (isA ⟨#[116, 104, 101, 110]⟩ 3)) = thenL (A.xs.find? (isA ⟨#[116, 104, 101, 110]⟩ 3))

theorem find_same {xs ys : List Atr} (h : ys.map strip = xs.map strip) (nm : ByteArray) (kd : Int) : (ys.find? (isA nm kd)).map strip = (xs.find? (isA nm kd)).map strip := by
  rw [← find_strip, ← find_strip, h]

theorem zip_same {xs ys : List Atr} {cs : List Cont} (h : ys.map strip = xs.map strip) (nm : ByteArray) (kd : Int) : ((ys.zip cs).find? (fun p => isA nm kd p.1)).map (fun p => (strip p.1, p.2)) = ((xs.zip cs).find? (fun p => isA nm kd p.1)).map (fun p => (strip p.1, p.2)) := by
  rw [← zip_strip ys cs (isA nm kd) (isA_strip nm kd), ← zip_strip xs cs (isA nm kd) (isA_strip nm kd), h]

theorem same_at {A : At} {ys : List Atr} (h : ys.map strip = A.xs.map strip) : SameAt A ⟨A.op, ys, A.cs⟩ := by
  refine ⟨rfl, fun nm z => ?_, fun nm zs => ?_, ?_, ?_, ?_⟩
  · have e := find_same h nm 2
    show intV ys nm z = intV A.xs nm z
    unfold intV
    cases h1 : ys.find? (isA nm 2) <;> cases h2 : A.xs.find? (isA nm 2) <;> rw [h1, h2] at e <;> simp only [Option.map_none, Option.map_some, reduceCtorEq, Option.some.injEq] at e
    have es := congrArg Atr.i e
    exact es
  · have e := zip_same (cs := A.cs) h nm 7
    show intsV ys A.cs nm zs = intsV A.xs A.cs nm zs
    unfold intsV
    cases h1 : (ys.zip A.cs).find? (fun p => isA nm 7 p.1) <;> cases h2 : (A.xs.zip A.cs).find? (fun p => isA nm 7 p.1) <;> rw [h1, h2] at e <;> simp only [Option.map_none, Option.map_some, reduceCtorEq, Option.some.injEq] at e
    exact congrArg Cont.i (Prod.mk.inj e).2
  · have e := find_same h ⟨#[118, 97, 108, 117, 101]⟩ 4
    unfold valA
    simp only
    cases h1 : ys.find? (isA ⟨#[118, 97, 108, 117, 101]⟩ 4) <;> cases h2 : A.xs.find? (isA ⟨#[118, 97, 108, 117, 101]⟩ 4) <;> rw [h1, h2] at e <;> simp only [Option.map_none, Option.map_some, reduceCtorEq, Option.some.injEq] at e
    have es := congrArg Atr.ty e
    exact es
  · have e := zip_same (cs := A.cs) h ⟨#[118, 97, 108, 117, 101]⟩ 4
    unfold valD
    simp only
    cases h1 : (ys.zip A.cs).find? (fun p => isA ⟨#[118, 97, 108, 117, 101]⟩ 4 p.1) <;> cases h2 : (A.xs.zip A.cs).find? (fun p => isA ⟨#[118, 97, 108, 117, 101]⟩ 4 p.1) <;> rw [h1, h2] at e <;> simp only [Option.map_none, Option.map_some, reduceCtorEq, Option.some.injEq] at e
    exact congrArg Cont.d (Prod.mk.inj e).2
  · have e := find_same h ⟨#[116, 104, 101, 110]⟩ 3
    simp only
    cases h1 : ys.find? (isA ⟨#[116, 104, 101, 110]⟩ 3) <;> cases h2 : A.xs.find? (isA ⟨#[116, 104, 101, 110]⟩ 3) <;> rw [h1, h2] at e <;> simp only [Option.map_none, Option.map_some, reduceCtorEq, Option.some.injEq] at e
    have es := congrArg Atr.s e
    simp only [strip] at es
    simp only [thenL, es]

theorem SameAt.type {A B : At} (h : SameAt A B) (ts : List Int) (g : Nat) : typeG B ts g = typeG A ts g := by
  match g with
  | 0 => simp only [typeG, h.vty]
  | 1 => simp only [typeG, h.int]
  | 2 => rfl
  | 3 => rfl
  | 4 => rfl
  | 5 => rfl
  | 6 => rfl
  | 7 => rfl
  | 8 => simp only [typeG, h.op]
  | 9 => simp only [typeG, h.op]
  | 10 => simp only [typeG, h.op]
  | n + 11 => rfl

theorem SameAt.dims {A B : At} (h : SameAt A B) (D : List (List Int)) (g : Nat) : dimsG B D g = dimsG A D g := by
  match g with
  | 0 => simp only [dimsG, h.vd]
  | 1 => rfl
  | 2 => rfl
  | 3 => rfl
  | 4 => simp only [dimsG, alongP, h.op, h.int, h.ints]
  | 5 => simp only [dimsG, reducedP, alongP, h.op, h.int, h.ints]
  | 6 => simp only [dimsG, h.ints]
  | 7 => simp only [dimsG, h.ints]
  | 8 =>
    simp only [dimsG, transposedP, permP, h.ints]
    rfl
  | 9 => simp only [dimsG, joinedP, h.int]
  | 10 => simp only [dimsG, slicedP, h.ints]
  | 11 => simp only [dimsG, gatherP, h.int]
  | 12 => simp only [dimsG, h.ints]
  | 13 => simp only [dimsG, h.ints]
  | 14 => simp only [dimsG, h.ints]
  | 15 => simp only [dimsG, flattenedP, h.int]
  | 16 => rfl
  | 17 => simp only [dimsG, gemmP, h.int]
  | 18 => simp only [dimsG, convolvedP, placesP, padsP, h.int, h.ints]
  | 19 => simp only [dimsG, pooledP, placesP, padsP, h.ints]
  | 20 => rfl
  | 21 => rfl
  | n + 22 => rfl

theorem vinP_same : ∀ {vs us : List (Val × List Int)}, tysOf us = tysOf vs → dimsOf us = dimsOf vs → vinP us = vinP vs
  | [], [], _, _ => rfl
  | [], _ :: _, h, _ => by simp [tysOf] at h
  | _ :: _, [], h, _ => by simp [tysOf] at h
  | p :: vs, q :: us, h, g => by
    simp only [tysOf, dimsOf, List.map_cons, List.cons.injEq] at h g
    simp only [vinP]
    rw [h.1, g.1, vinP_same (vs := vs) (us := us) h.2 g.2]

theorem checkE_sameI {r : Option (Int × Int × List Ra)} {ins ins' : List ByteArray} {out out' : ByteArray} {xs : List Atr} (hl : ins'.length = ins.length) (h1 : ((out.toList == []) || ins.any (isS ⟨#[]⟩)) = false) (h2 : ((out'.toList == []) || ins'.any (isS ⟨#[]⟩)) = false) : checkE r ins' out' xs = checkE r ins out xs := by
  unfold checkE
  rw [hl, h1, h2]

theorem checkF_named {r : Option (Int × Int × List Ra)} {op : ByteArray} {ins : List ByteArray} {out : ByteArray} {xs : List Atr} {cs : List Cont} (h : checkF r op ins out xs cs = 0) : ((out.toList == []) || ins.any (isS ⟨#[]⟩)) = false := by
  have h1 : checkE r ins out xs = 0 := by
    by_cases e : checkE r ins out xs = 0
    · exact e
    · rw [checkF_no rfl e] at h; exact absurd h e
  unfold checkE at h1
  cases r with
  | none => simp at h1
  | some q =>
    obtain ⟨lo, hi, rs⟩ := q
    simp only at h1
    cases hb : ((out.toList == []) || ins.any (isS ⟨#[]⟩)) with
    | false => rfl
    | true =>
      rw [hb] at h1
      by_cases e1 : (ins.length : Int) < lo
      · rw [if_pos e1] at h1; simp at h1
      · rw [if_neg e1] at h1
        by_cases e2 : hi < (ins.length : Int)
        · rw [if_pos e2] at h1; simp at h1
        · rw [if_neg e2] at h1; simp at h1

/-- A node, its inputs and the values called otherwise: the same comes out. -/
theorem OutOk.renamed {n m : Nod} {ins ins' : List ByteArray} {A : At} {ys : List Atr} {vs us : List (Val × List Int)} {r : Int × List Int} (h : OutOk n ins A vs r) (hm : m.op = n.op) (hy : ys.map strip = A.xs.map strip) (hl : ins'.length = ins.length) (h2 : ((m.out.toList == []) || ins'.any (isS ⟨#[]⟩)) = false) (ht : tysOf us = tysOf vs) (hd : dimsOf us = dimsOf vs) : OutOk m ins' ⟨A.op, ys, A.cs⟩ us r := by
  have S := same_at (A := A) hy
  have hul : us.length = vs.length := by have := congrArg List.length ht; simpa [tysOf] using this
  refine ⟨?_, by rw [hul, hl]; exact h.len, by rw [vinP_same ht hd]; exact h.vin, by rw [hm, S.type, ht]; exact h.typ, by rw [hm, S.dims, hd]; exact h.dim, h.cnt, by rw [S.thn]; exact h.thn⟩
  have hc := h.chk
  rw [hm]
  simp only
  rw [checkF_strip hy]
  unfold checkF at hc ⊢
  rw [checkE_sameI hl (checkF_named h.chk) h2]
  exact hc
end Go.Proofs.YtdcbjikjeicgbaaGreatDoor
