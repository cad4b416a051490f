/- A part. -/
import Derived.Test.YtbgbpfbjeleooaaGreatRartAY
namespace Go.Proofs.YtbgbpfbjeleooaaGreat.Pd
open Go.RowKit
open Wr (Fld)
structure NSt where
 ins : List ByteArray
 outs : List ByteArray
 name : ByteArray
 op : ByteArray
 attrs : List NAtr
 dom : ByteArray
def n0 : NSt := ⟨[], [], ⟨#[]⟩, ⟨#[]⟩, [], ⟨#[]⟩⟩
def jaN (s : NSt) (x : Fld) : R NSt :=
 if x.num = 1 then (jbI x).bind fun t => .ok ⟨s.ins ++ [t], s.outs, s.name, s.op, s.attrs, s.dom⟩
 else if x.num = 2 then (jbI x).bind fun t => .ok ⟨s.ins, s.outs ++ [t], s.name, s.op, s.attrs, s.dom⟩
 else if x.num = 3 then (jbI x).bind fun t => .ok ⟨s.ins, s.outs, t, s.op, s.attrs, s.dom⟩
 else if x.num = 4 then (jbI x).bind fun t => .ok ⟨s.ins, s.outs, s.name, t, s.attrs, s.dom⟩
 else if x.num = 5 then (jbI x).bind fun t => (jav t).bind fun A => .ok ⟨s.ins, s.outs, s.name, s.op, s.attrs ++ [A], s.dom⟩
 else if x.num = 7 then (jbI x).bind fun t => .ok ⟨s.ins, s.outs, s.name, s.op, s.attrs, t⟩
 else .ok s
structure NNod where
 op : ByteArray
 name : ByteArray
 ins : List ByteArray
 out : ByteArray
 attrs : List NAtr
def jih : ByteArray := ⟨#[97, 105, 46, 111, 110, 110, 120]⟩
def jfK (t : NSt) : R NNod := (jaj (decide (t.dom ≠ ⟨#[]⟩ ∧ t.dom ≠ jih)) 5).bind fun _ => (jaj (decide (t.outs.length ≠ 1)) 5).bind fun _ => (jaj (jaQ t.ins || jaQ [t.outs.headD ⟨#[]⟩, t.name, t.op]) 6).bind fun _ => (jaj (decide (20 < t.ins.length) || decide (20 < t.attrs.length)) 6).bind fun _ => .ok ⟨t.op, t.name, t.ins, t.outs.headD ⟨#[]⟩, t.attrs⟩
def jaA (s : ByteArray) : R NNod := (jaM s).bind fun l => (jaH jaN n0 l).bind jfK
theorem jai {α β : Type} {r : R α} {f : α → R β} {b : β} (h : r.bind f = .ok b) : ∃ a, r = .ok a ∧ f a = .ok b := by
 cases r with
 | error c => cases h
 | ok a => exact ⟨a, rfl, h⟩
theorem jbS {b : Bool} {e : Int} {u : Unit} (h : jaj b e = .ok u) : b = false := by
 cases b with
 | true => cases h
 | false => rfl
theorem jgK {s : ByteArray} {A : NAtr} (h : jav s = .ok A) : A.s.size ≤ 100 := by
 unfold jav at h
 obtain ⟨l, -, h⟩ := jai h
 obtain ⟨t, -, h⟩ := jai h
 unfold jfj at h
 obtain ⟨T, -, h⟩ := jai h
 obtain ⟨C, -, h⟩ := jai h
 obtain ⟨_, -, h⟩ := jai h
 obtain ⟨_, h1, h⟩ := jai h
 have h2 := jbS h1
 cases h
 simp only [Bool.or_eq_false_iff, jaQ, List.any_cons, List.any_nil, Bool.or_false, decide_eq_false_iff_not] at h2
 omega
def jfL (p : Atr × Cont) : NAtr := jbT p.1 p.2
def NInv (ins outs : List ByteArray) (ps : List (Atr × Cont)) (r : List Fld) : Prop := ins.length + r.length ≤ 16777216 ∧ outs.length + r.length ≤ 16777216 ∧ ps.length + r.length ≤ 16777216 ∧ (∀ p ∈ ps, p.1.s.size ≤ 100) ∧ ∀ y ∈ r, y.b.size ≤ 16777216
structure Tri (w : World) (base : Nat) (iv sv av : Value) (ins outs : List ByteArray) (ps : List (Atr × Cont)) : Prop where
 oi : jdL w base iv ins
 os : jdL w base sv outs
 oa : jjg w base av ps
 pis : Pr iv (Ao iv) sv (Ao sv)
 pia : Pr iv (Ao iv) av (Al jfI av ps)
 psa : Pr sv (Ao sv) av (Al jfI av ps)
section
variable {w W w' : World} {base : Nat} {iv sv av : Value} {ins outs : List ByteArray} {ps : List (Atr × Cont)}
theorem Tri.nil (w : World) (base : Nat) : Tri w base (.slice none 0 0) (.slice none 0 0) (.slice none 0 0) [] [] [] :=
 ⟨OwnsL.nil .., OwnsL.nil .., OwnD.nil (Nat.le_refl _), jlu _ _, jlu _ _, jlu _ _⟩
theorem Tri.new (h : Tri w base iv sv av ins outs ps) (hg : w.grownBy w' none) : Tri w' base iv sv av ins outs ps :=
 ⟨h.oi.more hg, h.os.more hg, jej jcN h.oa hg, h.pis, h.pia, h.psa⟩
theorem Tri.box {B : Nat} (h : Tri w base iv sv av ins outs ps) (hg : w.grownBy w' (some B)) (hB : B < base) : Tri w' base iv sv av ins outs ps :=
 ⟨h.oi.kept hg (fun g e => by cases e; exact hB), h.os.kept hg (fun g e => by cases e; exact hB), jek jcN h.oa hg hB, h.pis, h.pia, h.psa⟩
theorem Tri.seti {iv' : Value} {ins' : List ByteArray} (h : Tri w base iv sv av ins outs ps) (g1 : w.grownBy W none) (g2 : W.grownBy w' iv.ownBlock) (ho : jdL w' base iv' ins') (hf : jdD w.heap.size iv iv') : Tri w' base iv' sv av ins' outs ps :=
 have k : w.grownBy w' iv.ownBlock := jbp g1 g2
 ⟨ho, h.os.grow k (fun g e => h.pis.1 g e), jbe jcN h.oa k (fun g e => h.pia.1 g e), h.pis.step hf (jf4 hf) (fun b e => jdm h.os b e) (fun b e => jdm h.os b e), h.pia.step hf (jf4 hf) (fun _ e => (jaY h.oa e).2) (fun _ e => (jaY h.oa (.inl e)).2), h.psa⟩
theorem Tri.sets {sv' : Value} {outs' : List ByteArray} (h : Tri w base iv sv av ins outs ps) (g1 : w.grownBy W none) (g2 : W.grownBy w' sv.ownBlock) (ho : jdL w' base sv' outs') (hf : jdD w.heap.size sv sv') : Tri w' base iv sv' av ins outs' ps :=
 have k : w.grownBy w' sv.ownBlock := jbp g1 g2
 ⟨h.oi.grow k (fun g e => h.pis.2 g e), ho, jbe jcN h.oa k (fun g e => h.psa.1 g e), (h.pis.symm.step hf (jf4 hf) (fun b e => jdm h.oi b e) (fun b e => jdm h.oi b e)).symm, h.pia, h.psa.step hf (jf4 hf) (fun _ e => (jaY h.oa e).2) (fun _ e => (jaY h.oa (.inl e)).2)⟩
theorem Tri.seta {av' : Value} {y : Atr} {c : Cont} (h : Tri w base iv sv av ins outs ps) (g1 : w.grownBy W none) (g2 : W.grownBy w' av.ownBlock) (ho : jjg w' base av' (ps ++ [(y, c)])) (hf : jdD w.heap.size av av') (fy : ∀ b, jfI y c b → w.heap.size ≤ b) : Tri w' base iv sv av' ins outs (ps ++ [(y, c)]) :=
 have k : w.grownBy w' av.ownBlock := jbp g1 g2
 ⟨h.oi.grow k (fun g e => h.pia.2 g e), h.os.grow k (fun g e => h.psa.2 g e), ho, h.pis, (h.pia.symm.step hf (jce hf fy) (fun b e => jdm h.oi b e) (fun b e => jdm h.oi b e)).symm, (h.psa.symm.step hf (jce hf fy) (fun b e => jdm h.os b e) (fun b e => jdm h.os b e)).symm⟩
end
theorem jay {w : World} {B : Nat} {z0 z1 z2 z3 z4 : Value} {t : TypeId} (hb : w.heap[B]? = some (.cells #[z0, z1, z2, z3, z4] t (0, 0))) :
    (w.cell? ⟨B, 0, none⟩ = some z0 ∧ w.cell? ⟨B, 1, none⟩ = some z1 ∧ w.cell? ⟨B, 2, none⟩ = some z2 ∧ w.cell? ⟨B, 3, none⟩ = some z3 ∧ w.cell? ⟨B, 4, none⟩ = some z4) ∧ w.frozen? ⟨B, 0, none⟩ = false ∧ w.frozen? ⟨B, 1, none⟩ = false ∧ w.frozen? ⟨B, 2, none⟩ = false ∧ w.frozen? ⟨B, 3, none⟩ = false ∧ w.frozen? ⟨B, 4, none⟩ = false :=
     ⟨⟨(cell_of_row _ _ 0 _ _ (0, 0) hb).trans rfl, (cell_of_row _ _ 1 _ _ (0, 0) hb).trans rfl, (cell_of_row _ _ 2 _ _ (0, 0) hb).trans rfl, (cell_of_row _ _ 3 _ _ (0, 0) hb).trans rfl, (cell_of_row _ _ 4 _ _ (0, 0) hb).trans rfl⟩, frozen_of_row w B 0 _ _ hb, frozen_of_row w B 1 _ _ hb, frozen_of_row w B 2 _ _ hb, frozen_of_row w B 3 _ _ hb, frozen_of_row w B 4 _ _ hb⟩
theorem jer {w : World} {B : Nat} {z0 z1 z2 z3 z4 : Value} {t : TypeId} (hb : w.heap[B]? = some (.cells #[z0, z1, z2, z3, z4] t (0, 0))) (a : Value) :
    (w.setCell ⟨B, 0, none⟩ a).heap[B]? = some (.cells #[a, z1, z2, z3, z4] t (0, 0)) ∧ (w.setCell ⟨B, 1, none⟩ a).heap[B]? = some (.cells #[z0, a, z2, z3, z4] t (0, 0)) ∧ (w.setCell ⟨B, 2, none⟩ a).heap[B]? = some (.cells #[z0, z1, a, z3, z4] t (0, 0)) ∧ (w.setCell ⟨B, 3, none⟩ a).heap[B]? = some (.cells #[z0, z1, z2, a, z4] t (0, 0)) ∧ (w.setCell ⟨B, 4, none⟩ a).heap[B]? = some (.cells #[z0, z1, z2, z3, a] t (0, 0)) :=
     ⟨by simpa using heap_setCell_same w B 0 _ _ a hb, by simpa using heap_setCell_same w B 1 _ _ a hb, by simpa using heap_setCell_same w B 2 _ _ a hb, by simpa using heap_setCell_same w B 3 _ _ a hb, by simpa using heap_setCell_same w B 4 _ _ a hb⟩
theorem jcf {w w3 : World} {lo B b0 j base : Nat} {y : Fld} {r : List Fld} (a : Value) {iv sv av : Value} {ins outs : List ByteArray} {ps : List (Atr × Cont)} (hc : jcV w3 lo B y r) (h0 : w.grownBy w3 none) (ht : Tri w3 base iv sv av ins outs ps) (hb : b0 < lo) (hw : w.heap.size ≤ b0) (hl : lo ≤ base) :
    (∀ b, b ≠ b0 → b < w3.heap.size → (w3.setCell ⟨b0, j, none⟩ a).heap[b]? = w3.heap[b]?) ∧ jcV (w3.setCell ⟨b0, j, none⟩ a) lo B y r ∧ w.grownBy (w3.setCell ⟨b0, j, none⟩ a) none ∧ Tri (w3.setCell ⟨b0, j, none⟩ a) base iv sv av ins outs ps :=
     have hg := jao w3 b0 j a
     ⟨fun b hne hl => hg.block b hl (fun e => hne (Option.some.inj e)), hc.kept hg (fun g e => .inl (by cases e; exact hb)), jaf h0 hg (fun g e => .inr (by cases e; exact hw)), ht.box hg (by omega)⟩
theorem ja1 {w w2 w3 : World} {lo B : Nat} {y : Fld} {r : List Fld} {v : Value} (ho : ∀ g, v.ownBlock = some g → B + 1 ≤ g) (hg : w2.grownBy w3 v.ownBlock) (hc : jcV w2 lo B y r) (h0 : w.grownBy w2 none) (hB : w.heap.size ≤ B) :
    (∀ b, b ≤ B → w3.heap[b]? = w2.heap[b]?) ∧ jcV w3 lo B y r ∧ w.grownBy w3 none :=
     ⟨fun b hb => hg.block b (by have := hc.lt; omega) (fun e => by have := ho b e.symm; omega), hc.kept hg (fun g e => .inr (by have := ho g e; omega)), jaf h0 hg (fun g e => .inr (by have := ho g e; omega))⟩
theorem jdG (y : Atr) : ∀ u ∈ jbJ y, u.oneCell' = true := by
 intro u hu
 simp only [jbJ, List.mem_cons, List.not_mem_nil, or_false] at hu
 rcases hu with rfl | rfl | rfl | rfl | rfl | rfl | rfl | rfl | rfl <;> rfl
theorem jku : (Tryz.prog.info? 78).map (fun i => (i.zero, i.size, i.bytes)) = some (some (.agg #[.string ⟨#[]⟩, .int .i64 0, .int .i64 0, .int .i64 0, .string ⟨#[]⟩, .int .i64 0, .slice none 0 0, .slice none 0 0, .slice none 0 0]), 9, 136) := by kernel_rfl
def jd1 (n : Nod) (q : Ni) : NNod := ⟨n.op, n.name, q.ins, n.out, List.zipWith jbT q.xs q.cs⟩
theorem jf6 : ∀ ps : List (Atr × Cont), List.zipWith jbT (ps.map (·.1)) (ps.map (·.2)) = ps.map jfL
 | [] => rfl
 | p :: l => by simp [jf6 l, jfL]
theorem jfk {w : World} {base : Nat} {iv sv av : Sl} {ins outs : List ByteArray} {ps : List (Atr × Cont)} {op nam out : ByteArray} (h : Tri w base iv.v sv.v av.v ins outs ps) (hi : ins.length ≤ 20) (hp : ps.length ≤ 20) (hs : ∀ p ∈ ps, p.1.s.size ≤ 100) :
    jkZ w ⟨op, nam, iv, out, av⟩ ⟨ins, ps.map (·.1), ps.map (·.2)⟩ ∧ ∀ b, jea ⟨op, nam, iv, out, av⟩ ⟨ins, ps.map (·.1), ps.map (·.2)⟩ b → base ≤ b ∧ b < w.heap.size := by
     refine ⟨⟨(show IsL 16 1 ja4 w iv.v ins from h.oi.isL (bytes := 16) jb6 (by omega)), h.oa.own.isL (bytes := 136) jfB (by rw [List.length_map]; omega), fun j a e => ?_, by simp; omega, fun a ha => ?_⟩, fun b e => ?_⟩
     ·simp only at e
      rw [List.getElem?_map] at e
      cases hp : ps[j]? with
      | none => rw [hp] at e; cases e
      | some p =>
       rw [hp] at e
       cases e
       exact ⟨p.2, by simp only; rw [List.getElem?_map, hp]; rfl, h.oa.has p (List.mem_of_getElem? hp)⟩
     ·obtain ⟨p, hp, rfl⟩ := List.mem_map.1 ha
      have := hs p hp
      omega
     ·rcases e with e | e | ⟨a, ha, e⟩
      ·exact World.ownsRow.lt h.oi b e
      ·exact jaY h.oa (.inl e)
      ·obtain ⟨p, hp, rfl⟩ := List.mem_map.1 ha
       exact jaY h.oa (.inr ⟨p, hp, e⟩)
end Go.Proofs.YtbgbpfbjeleooaaGreat.Pd
