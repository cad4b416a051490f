/- What any operator makes: types and dims, put together by the rule table (mkIAll.py). -/
import Derived.Test.YteigfipgmghgmaaGreatDoorIOut
import Derived.Test.YteigfipgmghgmaaGreatDoorIValueOf
import Derived.Test.YteigfipgmghgmaaGreatDoorITy
import Derived.Test.YteigfipgmghgmaaGreatDoorITy2
import Derived.Test.YteigfipgmghgmaaGreatDoorIVal
import Derived.Test.YteigfipgmghgmaaGreatDoorIDm
import Derived.Test.YteigfipgmghgmaaGreatDoorIDm2
import Derived.Test.YteigfipgmghgmaaGreatDoorIDm3
import Derived.Test.YteigfipgmghgmaaGreatDoorIGemm
import Derived.Test.YteigfipgmghgmaaGreatDoorINorm
import Derived.Test.YteigfipgmghgmaaGreatDoorIWhere
import Derived.Test.YteigfipgmghgmaaGreatDoorIGath
import Derived.Test.YteigfipgmghgmaaGreatDoorIConvD
namespace Go.Proofs.YteigfipgmghgmaaGreatDoor
open Go.RowKit

/-- Of each operator how its type is found, and how its dims. -/
def grps : List (List UInt8 × Nat × Nat) := [
  ([73, 100, 101, 110, 116, 105, 116, 121], 10, 1),
  ([78, 101, 103], 10, 1),
  ([65, 98, 115], 10, 1),
  ([78, 111, 116], 10, 1),
  ([82, 101, 108, 117], 10, 1),
  ([83, 113, 114, 116], 10, 1),
  ([70, 108, 111, 111, 114], 10, 1),
  ([69, 120, 112], 10, 1),
  ([83, 105, 103, 109, 111, 105, 100], 10, 1),
  ([84, 97, 110, 104], 10, 1),
  ([65, 100, 100], 9, 2),
  ([83, 117, 98], 9, 2),
  ([77, 117, 108], 9, 2),
  ([68, 105, 118], 9, 2),
  ([77, 97, 120], 9, 2),
  ([77, 105, 110], 9, 2),
  ([65, 110, 100], 9, 2),
  ([79, 114], 9, 2),
  ([88, 111, 114], 9, 2),
  ([69, 113, 117, 97, 108], 8, 2),
  ([76, 101, 115, 115], 8, 2),
  ([71, 114, 101, 97, 116, 101, 114], 8, 2),
  ([77, 97, 116, 77, 117, 108], 7, 16),
  ([87, 104, 101, 114, 101], 2, 3),
  ([67, 108, 105, 112], 7, 1),
  ([67, 97, 115, 116], 1, 1),
  ([82, 101, 100, 117, 99, 101, 83, 117, 109], 5, 5),
  ([82, 101, 100, 117, 99, 101, 77, 97, 120], 5, 5),
  ([82, 101, 100, 117, 99, 101, 77, 101, 97, 110], 7, 5),
  ([65, 114, 103, 77, 97, 120], 6, 5),
  ([82, 101, 115, 104, 97, 112, 101], 3, 6),
  ([69, 120, 112, 97, 110, 100], 3, 7),
  ([84, 114, 97, 110, 115, 112, 111, 115, 101], 3, 8),
  ([67, 111, 110, 99, 97, 116], 3, 9),
  ([83, 108, 105, 99, 101], 3, 10),
  ([71, 97, 116, 104, 101, 114], 4, 11),
  ([80, 97, 100], 7, 12),
  ([83, 113, 117, 101, 101, 122, 101], 3, 13),
  ([85, 110, 115, 113, 117, 101, 101, 122, 101], 3, 14),
  ([70, 108, 97, 116, 116, 101, 110], 3, 15),
  ([83, 111, 102, 116, 109, 97, 120], 7, 4),
  ([71, 101, 109, 109], 7, 17),
  ([67, 111, 110, 118], 7, 18),
  ([77, 97, 120, 80, 111, 111, 108], 7, 19),
  ([65, 118, 101, 114, 97, 103, 101, 80, 111, 111, 108], 7, 19),
  ([71, 108, 111, 98, 97, 108, 65, 118, 101, 114, 97, 103, 101, 80, 111, 111, 108], 7, 20),
  ([66, 97, 116, 99, 104, 78, 111, 114, 109, 97, 108, 105, 122, 97, 116, 105, 111, 110], 7, 21),
  ([67, 111, 110, 115, 116, 97, 110, 116], 0, 0)]

def grp (op : ByteArray) : Nat × Nat := ((grps.find? (fun r => r.1 == op.toList)).map (·.2)).getD (99, 99)

/-- The dims of a Constant's value. -/
def valD (A : At) : List Int := match (A.xs.zip A.cs).find? (fun p => isA ⟨#[118, 97, 108, 117, 101]⟩ 4 p.1) with
  | some p => p.2.d
  | none => []

/-- The type of what comes out. -/
def typeG (A : At) (ts : List Int) : Nat → R Int
  | 0 => .ok (valA A).ty
  | 1 => (typP (wholeP (A.int ⟨#[116, 111]⟩ 0))).bind (fun _ => .ok (wholeP (A.int ⟨#[116, 111]⟩ 0)))
  | 2 => (mustP (ts.getD 0 0 == 9)).bind (fun _ => sameP ts.tail)
  | 3 => sameP ts
  | 4 => (mustP (ts.getD 1 0 == 6 || ts.getD 1 0 == 7)).bind (fun _ => .ok (ts.getD 0 0))
  | 5 => (mustP (ts.getD 0 0 != 9)).bind (fun _ => .ok (ts.getD 0 0))
  | 6 => (mustP (ts.getD 0 0 != 9)).bind (fun _ => .ok (7 : Int))
  | 7 => (sameP ts).bind (fun t => (mustP (t == 1)).bind (fun _ => .ok (1 : Int)))
  | 8 => (sameP ts).bind (fun t => (mustP (twoOK A.op.toList t)).bind (fun _ => .ok (9 : Int)))
  | 9 => (sameP ts).bind (fun t => (mustP (twoOK A.op.toList t)).bind (fun _ => .ok t))
  | 10 => (sameP ts).bind (fun t => (mustP (oneOK A.op.toList t)).bind (fun _ => .ok t))
  | _ => .error 5

/-- The dims of what comes out. -/
def dimsG (A : At) (D : List (List Int)) : Nat → R (List Int)
  | 0 => .ok (valD A)
  | 1 => .ok (D.getD 0 [])
  | 2 => spreadP (D.getD 0 []) (D.getD 1 [])
  | 3 => (spreadP (D.getD 0 []) (D.getD 1 [])).bind (fun l => spreadP l (D.getD 2 []))
  | 4 => (axesP (alongP A (D.getD 0 []).length) (D.getD 0 []).length).bind (fun _ => .ok (D.getD 0 []))
  | 5 => reducedP A (D.getD 0 [])
  | 6 => reshapedP (D.getD 0 []) (A.ints ⟨#[115, 104, 97, 112, 101]⟩ [])
  | 7 => spreadP (D.getD 0 []) ((A.ints ⟨#[115, 104, 97, 112, 101]⟩ []).map wholeP)
  | 8 => transposedP A (D.getD 0 [])
  | 9 => joinedP A (D.getD 0 []) D.tail
  | 10 => slicedP A (D.getD 0 [])
  | 11 => gatherP A (D.getD 0 []) (D.getD 1 [])
  | 12 => paddedP (D.getD 0 []) (A.ints ⟨#[112, 97, 100, 115]⟩ [])
  | 13 => squeezedP (D.getD 0 []) (A.ints ⟨#[97, 120, 101, 115]⟩ [])
  | 14 => unsqueezedP (D.getD 0 []) (A.ints ⟨#[97, 120, 101, 115]⟩ [])
  | 15 => flattenedP A (D.getD 0 [])
  | 16 => productP (D.getD 0 []) (D.getD 1 [])
  | 17 => gemmP A (D.getD 0 []) (D.getD 1 []) (D.drop 2).head?
  | 18 => convolvedP A (D.getD 0 []) (D.getD 1 []) (D.drop 2).head?
  | 19 => pooledP A (D.getD 0 [])
  | 20 => (mustP (decide ((D.getD 0 []).length = 4))).bind (fun _ => .ok [(D.getD 0 []).getD 0 0, (D.getD 0 []).getD 1 0, 1, 1])
  | 21 => normalizedP (D.getD 0 []) D.tail
  | _ => .error 5

def dimsOf (vs : List (Val × List Int)) : List (List Int) := vs.map (·.2)

/-- A node that comes in, with all that infer asks of it. -/
structure NodeAll (w : World) (n : Nod) (ins : List ByteArray) (A : At) : Prop where
  node : NodeIn w n ins A.xs A.cs
  op : A.op = n.op
  rng : ∀ a ∈ A.xs, -9223372036854775808 ≤ a.i ∧ a.i ≤ 9223372036854775807
  lens : ∀ c ∈ A.cs, c.i.length ≤ 1048576
  out : n.out.size ≤ 1048576

theorem NodeAll.more {w w' : World} {n : Nod} {ins : List ByteArray} {A : At} (h : NodeAll w n ins A) (hg : w.grownBy w' none) : NodeAll w' n ins A := ⟨h.node.more hg, h.op, h.rng, h.lens, h.out⟩

theorem NodeAll.ok {w : World} {n : Nod} {ins : List ByteArray} {A : At} (h : NodeAll w n ins A) : NodeOk w n A := ⟨h.op, h.node.av, h.node.has, h.rng⟩

theorem NodeAll.ints_len {w : World} {n : Nod} {ins : List ByteArray} {A : At} (h : NodeAll w n ins A) (nm : ByteArray) : (A.ints nm []).length ≤ 100000000 := by
  unfold At.ints intsV
  cases hf : (A.xs.zip A.cs).find? (fun p => isA nm 7 p.1) with
  | none => simp
  | some p =>
    have h1 := List.mem_of_find?_eq_some hf
    have h2 := h.lens p.2 (List.of_mem_zip h1).2
    simp only
    omega

theorem vinP_all : ∀ {vs : List (Val × List Int)}, vinP vs = .ok () → ∀ p ∈ vs, isTypeP p.1.ty = true ∧ Fine p.2
  | [], _, p, hp => by cases hp
  | q :: l, h, p, hp => by
    simp only [vinP] at h
    have h1 : isTypeP q.1.ty = true := by
      unfold typP at h
      by_cases e : isTypeP q.1.ty = true
      · exact e
      · rw [if_neg e] at h; cases h
    have e1 : typP q.1.ty = .ok () := by unfold typP; rw [if_pos h1]
    rw [e1] at h
    have h2 : cntE q.2 = 0 := by
      by_cases e : cntE q.2 = 0
      · exact e
      · have : countP q.2 = .error (cntE q.2) := by unfold countP; rw [if_neg e]
        rw [this] at h; cases h
    have e2 : countP q.2 = .ok (prod q.2) := by unfold countP; rw [if_pos h2]
    rw [e2] at h
    rcases List.mem_cons.1 hp with rfl | hp
    · exact ⟨h1, fine_of h2⟩
    · exact vinP_all h p hp

theorem ended_mono {α : Type} {w w' : World} {r : R α} {Q Q' : α → Value → World → Prop} {e : Ending} (h : Ended w r Q e w') (hq : ∀ a v, r = .ok a → Q a v w' → Q' a v w') : Ended w r Q' e w' := by
  cases r with
  | error c => exact h
  | ok a =>
    obtain ⟨hg, v, he, hv⟩ := h
    exact ⟨hg, v, he, hq a v rfl hv⟩

theorem sameP_mem {ts : List Int} {t : Int} (h : sameP ts = .ok t) (h0 : 0 < ts.length) : t ∈ ts := by
  cases ts with
  | nil => simp at h0
  | cons a l =>
    simp only [sameP] at h
    by_cases e : l.all (fun s => s == a) = true
    · rw [if_pos e] at h
      obtain rfl : a = t := by cases h; rfl
      simp
    · rw [if_neg e] at h; cases h

theorem bind_ok {α β : Type} {r : R α} {f : α → R β} {b : β} (h : r.bind f = .ok b) : ∃ a, r = .ok a ∧ f a = .ok b := by
  cases r with
  | error c => cases h
  | ok a => exact ⟨a, rfl, h⟩

theorem isT1 : isTypeP 1 = true := by decide
theorem isT7 : isTypeP 7 = true := by decide
theorem isT9 : isTypeP 9 = true := by decide

theorem typP_ok {t : Int} {u : Unit} (h : typP t = .ok u) : isTypeP t = true := by
  unfold typP at h
  by_cases e : isTypeP t = true
  · exact e
  · rw [if_neg e] at h; cases h

/-- The type that comes out is one. -/
theorem typeG_ok {A : At} {ts : List Int} {g : Nat} {t : Int} (h : typeG A ts g = .ok t) (hc : g = 0 → isTypeP (valA A).ty = true) (ht : ∀ s ∈ ts, isTypeP s = true) (hn : g ≠ 0 → g ≠ 1 → 0 < ts.length) (h3 : g = 2 → 1 < ts.length) : isTypeP t = true := by
  match g with
  | 0 => simp only [typeG] at h; cases h; exact hc rfl
  | 1 => obtain ⟨a, h1, h2⟩ := bind_ok h; cases h2; exact typP_ok h1
  | 2 =>
    obtain ⟨a, h1, h2⟩ := bind_ok h
    have := h3 rfl
    exact ht t (List.mem_of_mem_tail (sameP_mem h2 (by rw [List.length_tail]; omega)))
  | 3 => exact ht t (sameP_mem h (hn (by decide) (by decide)))
  | 4 => obtain ⟨a, h1, h2⟩ := bind_ok h; cases h2; exact ht _ (getD_mem (hn (by decide) (by decide)))
  | 5 => obtain ⟨a, h1, h2⟩ := bind_ok h; cases h2; exact ht _ (getD_mem (hn (by decide) (by decide)))
  | 6 => obtain ⟨a, h1, h2⟩ := bind_ok h; cases h2; exact isT7
  | 7 => obtain ⟨a, h1, h2⟩ := bind_ok h; obtain ⟨b, h3, h4⟩ := bind_ok h2; cases h4; exact isT1
  | 8 => obtain ⟨a, h1, h2⟩ := bind_ok h; obtain ⟨b, h3, h4⟩ := bind_ok h2; cases h4; exact isT9
  | 9 => obtain ⟨a, h1, h2⟩ := bind_ok h; obtain ⟨b, h3, h4⟩ := bind_ok h2; cases h4; exact ht _ (sameP_mem h1 (hn (by decide) (by decide)))
  | 10 => obtain ⟨a, h1, h2⟩ := bind_ok h; obtain ⟨b, h3, h4⟩ := bind_ok h2; cases h4; exact ht _ (sameP_mem h1 (hn (by decide) (by decide)))
  | n + 11 => simp [typeG] at h

theorem op_of_list {op : ByteArray} {l : List UInt8} (h : op.toList = l) : op = ⟨l.toArray⟩ := by
  rw [bytes_toList] at h
  cases op with
  | mk d => simp only at h; subst h; simp

theorem len_one {α : Type} {vs : List α} (h : vs.length = 1) : ∃ a, vs = [a] := by
  match vs, h with
  | [a], _ => exact ⟨a, rfl⟩

theorem len_two {α : Type} {vs : List α} (h : vs.length = 2) : ∃ a b, vs = [a, b] := by
  match vs, h with
  | [a, b], _ => exact ⟨a, b, rfl⟩

theorem len_three {α : Type} {vs : List α} (h : vs.length = 3) : ∃ a b c, vs = [a, b, c] := by
  match vs, h with
  | [a, b, c], _ => exact ⟨a, b, c, rfl⟩

theorem ints_nilI (w : World) : IsInts w (.slice none 0 0) [] := ⟨none, 0, rfl, by simp, by simp, by simp, fun _ => ⟨rfl, rfl⟩, fun h => by simp at h, fun z hz => by simp at hz⟩

/-- What typeMade and dimsMade are to do. -/
def MadeT (n : Nod) (A : At) (u : Sl) (vs : List (Val × List Int)) (w : World) (g : Nat) : Prop := Calls Tryz.prog 74 #[nval n, .slice u.a u.n u.c] w (Ended w (typeG A (tysOf vs) g) fun t v _ => v = .int .i64 t)
def MadeD (n : Nod) (A : At) (u : Sl) (vs : List (Val × List Int)) (w : World) (g : Nat) : Prop := Calls Tryz.prog 75 #[nval n, .slice u.a u.n u.c] w (Ended w (dimsG A (dimsOf vs) g) DimsQ)

section
variable {n : Nod} {ins : List ByteArray} {A : At} {u : Sl} {vs : List (Val × List Int)} {w : World}

theorem tm_same (hop : n.op ∈ ([⟨#[67, 111, 110, 99, 97, 116]⟩, ⟨#[82, 101, 115, 104, 97, 112, 101]⟩, ⟨#[69, 120, 112, 97, 110, 100]⟩, ⟨#[84, 114, 97, 110, 115, 112, 111, 115, 101]⟩, ⟨#[83, 108, 105, 99, 101]⟩, ⟨#[83, 113, 117, 101, 101, 122, 101]⟩, ⟨#[85, 110, 115, 113, 117, 101, 101, 122, 101]⟩, ⟨#[70, 108, 97, 116, 116, 101, 110]⟩] : List ByteArray)) (hn : NodeAll w n ins A) (hv : ValsIn w u.v vs) (ht : ∀ s ∈ tysOf vs, isTypeP s = true) (hl : 0 < vs.length) (hf : vs.length ≤ 1000000) : MadeT n A u vs w 3 := by
  exact type_same n A u vs w hop hn.ok hv hl hf ht

theorem tm_float (hop : n.op ∈ ([⟨#[67, 108, 105, 112]⟩, ⟨#[83, 111, 102, 116, 109, 97, 120]⟩, ⟨#[82, 101, 100, 117, 99, 101, 77, 101, 97, 110]⟩, ⟨#[80, 97, 100]⟩, ⟨#[77, 97, 116, 77, 117, 108]⟩, ⟨#[71, 101, 109, 109]⟩, ⟨#[67, 111, 110, 118]⟩, ⟨#[77, 97, 120, 80, 111, 111, 108]⟩, ⟨#[65, 118, 101, 114, 97, 103, 101, 80, 111, 111, 108]⟩, ⟨#[71, 108, 111, 98, 97, 108, 65, 118, 101, 114, 97, 103, 101, 80, 111, 111, 108]⟩, ⟨#[66, 97, 116, 99, 104, 78, 111, 114, 109, 97, 108, 105, 122, 97, 116, 105, 111, 110]⟩] : List ByteArray)) (hn : NodeAll w n ins A) (hv : ValsIn w u.v vs) (ht : ∀ s ∈ tysOf vs, isTypeP s = true) (hl : 0 < vs.length) (hf : vs.length ≤ 1000000) : MadeT n A u vs w 7 := by
  exact type_float n A u vs w hop hn.ok hv hl hf ht

theorem tm_two (hop : n.op ∈ ([⟨#[65, 100, 100]⟩, ⟨#[83, 117, 98]⟩, ⟨#[77, 117, 108]⟩, ⟨#[68, 105, 118]⟩, ⟨#[77, 97, 120]⟩, ⟨#[77, 105, 110]⟩, ⟨#[65, 110, 100]⟩, ⟨#[79, 114]⟩, ⟨#[88, 111, 114]⟩] : List ByteArray)) (hn : NodeAll w n ins A) (hv : ValsIn w u.v vs) (ht : ∀ s ∈ tysOf vs, isTypeP s = true) (hl : vs.length = 2) (hf : vs.length ≤ 1000000) : MadeT n A u vs w 9 := by
  unfold MadeT typeG
  rw [hn.op]
  exact type_two n A u vs w hop hn.ok hv hl hf ht

theorem tm_one (hop : n.op ∈ ([⟨#[73, 100, 101, 110, 116, 105, 116, 121]⟩, ⟨#[78, 101, 103]⟩, ⟨#[65, 98, 115]⟩, ⟨#[78, 111, 116]⟩, ⟨#[82, 101, 108, 117]⟩, ⟨#[83, 113, 114, 116]⟩, ⟨#[70, 108, 111, 111, 114]⟩, ⟨#[69, 120, 112]⟩, ⟨#[83, 105, 103, 109, 111, 105, 100]⟩, ⟨#[84, 97, 110, 104]⟩] : List ByteArray)) (hn : NodeAll w n ins A) (hv : ValsIn w u.v vs) (ht : ∀ s ∈ tysOf vs, isTypeP s = true) (hl : vs.length = 1) (hf : vs.length ≤ 1000000) : MadeT n A u vs w 10 := by
  unfold MadeT typeG
  rw [hn.op]
  exact type_one n A u vs w hop hn.ok hv hl hf ht

theorem dm_x (hop : n.op ∈ ([⟨#[73, 100, 101, 110, 116, 105, 116, 121]⟩, ⟨#[78, 101, 103]⟩, ⟨#[65, 98, 115]⟩, ⟨#[78, 111, 116]⟩, ⟨#[82, 101, 108, 117]⟩, ⟨#[83, 113, 114, 116]⟩, ⟨#[70, 108, 111, 111, 114]⟩, ⟨#[69, 120, 112]⟩, ⟨#[83, 105, 103, 109, 111, 105, 100]⟩, ⟨#[84, 97, 110, 104]⟩, ⟨#[67, 108, 105, 112]⟩, ⟨#[67, 97, 115, 116]⟩] : List ByteArray)) (hn : NodeAll w n ins A) (hv : ValsIn w u.v vs) (_hf : ∀ p ∈ vs, Fine p.2) (hl : vs.length = 1) : MadeD n A u vs w 1 := by
  obtain ⟨⟨v0, x⟩, rfl⟩ := len_one hl
  exact dims_x n A u v0 x w hop hn.ok hv

theorem dm_two (hop : n.op ∈ ([⟨#[65, 100, 100]⟩, ⟨#[83, 117, 98]⟩, ⟨#[77, 117, 108]⟩, ⟨#[68, 105, 118]⟩, ⟨#[77, 97, 120]⟩, ⟨#[77, 105, 110]⟩, ⟨#[65, 110, 100]⟩, ⟨#[79, 114]⟩, ⟨#[88, 111, 114]⟩, ⟨#[69, 113, 117, 97, 108]⟩, ⟨#[76, 101, 115, 115]⟩, ⟨#[71, 114, 101, 97, 116, 101, 114]⟩] : List ByteArray)) (hn : NodeAll w n ins A) (hv : ValsIn w u.v vs) (_hf : ∀ p ∈ vs, Fine p.2) (hl : vs.length = 2) : MadeD n A u vs w 2 := by
  obtain ⟨⟨v0, x⟩, ⟨v1, y⟩, rfl⟩ := len_two hl
  exact dims_two n A u v0 v1 x y w hop hn.ok hv

theorem dm_reduced (hop : n.op ∈ ([⟨#[82, 101, 100, 117, 99, 101, 83, 117, 109]⟩, ⟨#[82, 101, 100, 117, 99, 101, 77, 97, 120]⟩, ⟨#[82, 101, 100, 117, 99, 101, 77, 101, 97, 110]⟩, ⟨#[65, 114, 103, 77, 97, 120]⟩] : List ByteArray)) (hn : NodeAll w n ins A) (hv : ValsIn w u.v vs) (hf : ∀ p ∈ vs, Fine p.2) (hl : vs.length = 1) : MadeD n A u vs w 5 := by
  obtain ⟨⟨v0, x⟩, rfl⟩ := len_one hl
  exact dims_reduced n A u v0 x w hop hn.ok hv (hf (v0, x) (by simp))

theorem dm_transposed (hop : n.op ∈ ([⟨#[84, 114, 97, 110, 115, 112, 111, 115, 101]⟩] : List ByteArray)) (hn : NodeAll w n ins A) (hv : ValsIn w u.v vs) (hf : ∀ p ∈ vs, Fine p.2) (hl : vs.length = 1) : MadeD n A u vs w 8 := by
  obtain ⟨⟨v0, x⟩, rfl⟩ := len_one hl
  exact dims_transposed n A u v0 x w hop hn.ok hv (hf (v0, x) (by simp))

theorem dm_sliced (hop : n.op ∈ ([⟨#[83, 108, 105, 99, 101]⟩] : List ByteArray)) (hn : NodeAll w n ins A) (hv : ValsIn w u.v vs) (hf : ∀ p ∈ vs, Fine p.2) (hl : vs.length = 1) : MadeD n A u vs w 10 := by
  obtain ⟨⟨v0, x⟩, rfl⟩ := len_one hl
  exact dims_sliced n A u v0 x w hop hn.ok hv (hf (v0, x) (by simp))

theorem dm_flattened (hop : n.op ∈ ([⟨#[70, 108, 97, 116, 116, 101, 110]⟩] : List ByteArray)) (hn : NodeAll w n ins A) (hv : ValsIn w u.v vs) (hf : ∀ p ∈ vs, Fine p.2) (hl : vs.length = 1) : MadeD n A u vs w 15 := by
  obtain ⟨⟨v0, x⟩, rfl⟩ := len_one hl
  exact dims_flattened n A u v0 x w hop hn.ok hv (hf (v0, x) (by simp))

theorem dm_pooled (hop : n.op ∈ ([⟨#[77, 97, 120, 80, 111, 111, 108]⟩, ⟨#[65, 118, 101, 114, 97, 103, 101, 80, 111, 111, 108]⟩] : List ByteArray)) (hn : NodeAll w n ins A) (hv : ValsIn w u.v vs) (hf : ∀ p ∈ vs, Fine p.2) (hl : vs.length = 1) : MadeD n A u vs w 19 := by
  obtain ⟨⟨v0, x⟩, rfl⟩ := len_one hl
  exact dims_pooled n A u v0 x w hop hn.ok hv (hf (v0, x) (by simp))

theorem dm_product (hop : n.op ∈ ([⟨#[77, 97, 116, 77, 117, 108]⟩] : List ByteArray)) (hn : NodeAll w n ins A) (hv : ValsIn w u.v vs) (hf : ∀ p ∈ vs, Fine p.2) (hl : vs.length = 2) : MadeD n A u vs w 16 := by
  obtain ⟨⟨v0, x⟩, ⟨v1, y⟩, rfl⟩ := len_two hl
  exact dims_product n A u v0 v1 x y w hop hn.ok hv (hf (v0, x) (by simp)) (hf (v1, y) (by simp))

theorem dm_reshape (hop : n.op ∈ ([⟨#[82, 101, 115, 104, 97, 112, 101]⟩] : List ByteArray)) (hn : NodeAll w n ins A) (hv : ValsIn w u.v vs) (hf : ∀ p ∈ vs, Fine p.2) (hl : vs.length = 1) : MadeD n A u vs w 6 := by
  obtain ⟨⟨v0, x⟩, rfl⟩ := len_one hl
  exact dims_reshape n A u v0 x w hop hn.ok hv (hf (v0, x) (by simp)) (hn.ints_len _)

theorem dm_pad (hop : n.op ∈ ([⟨#[80, 97, 100]⟩] : List ByteArray)) (hn : NodeAll w n ins A) (hv : ValsIn w u.v vs) (hf : ∀ p ∈ vs, Fine p.2) (hl : vs.length = 1) : MadeD n A u vs w 12 := by
  obtain ⟨⟨v0, x⟩, rfl⟩ := len_one hl
  exact dims_pad n A u v0 x w hop hn.ok hv (hf (v0, x) (by simp))

theorem dm_squeeze (hop : n.op ∈ ([⟨#[83, 113, 117, 101, 101, 122, 101]⟩] : List ByteArray)) (hn : NodeAll w n ins A) (hv : ValsIn w u.v vs) (hf : ∀ p ∈ vs, Fine p.2) (hl : vs.length = 1) : MadeD n A u vs w 13 := by
  obtain ⟨⟨v0, x⟩, rfl⟩ := len_one hl
  exact dims_squeeze n A u v0 x w hop hn.ok hv (hf (v0, x) (by simp))

theorem dm_unsqueeze (hop : n.op ∈ ([⟨#[85, 110, 115, 113, 117, 101, 101, 122, 101]⟩] : List ByteArray)) (hn : NodeAll w n ins A) (hv : ValsIn w u.v vs) (hf : ∀ p ∈ vs, Fine p.2) (hl : vs.length = 1) : MadeD n A u vs w 14 := by
  obtain ⟨⟨v0, x⟩, rfl⟩ := len_one hl
  exact dims_unsqueeze n A u v0 x w hop hn.ok hv (hf (v0, x) (by simp)) (hn.ints_len _)

theorem madeT_Equal (hop : n.op = ⟨#[69, 113, 117, 97, 108]⟩) (hn : NodeAll w n ins A) (hv : ValsIn w u.v vs) (ht : ∀ s ∈ tysOf vs, isTypeP s = true) (hl : vs.length = 2) : MadeT n A u vs w 8 := by
  have ao : A.op.toList = [69, 113, 117, 97, 108] := by rw [hn.op, hop, bytes_toList]
  unfold MadeT typeG
  simp only [ao]
  exact type_Equal n A u vs w hop hn.ok hv hl (by omega) ht

theorem madeT_Less (hop : n.op = ⟨#[76, 101, 115, 115]⟩) (hn : NodeAll w n ins A) (hv : ValsIn w u.v vs) (ht : ∀ s ∈ tysOf vs, isTypeP s = true) (hl : vs.length = 2) : MadeT n A u vs w 8 := by
  have ao : A.op.toList = [76, 101, 115, 115] := by rw [hn.op, hop, bytes_toList]
  unfold MadeT typeG
  simp only [ao]
  exact type_Less n A u vs w hop hn.ok hv hl (by omega) ht

theorem madeT_Greater (hop : n.op = ⟨#[71, 114, 101, 97, 116, 101, 114]⟩) (hn : NodeAll w n ins A) (hv : ValsIn w u.v vs) (ht : ∀ s ∈ tysOf vs, isTypeP s = true) (hl : vs.length = 2) : MadeT n A u vs w 8 := by
  have ao : A.op.toList = [71, 114, 101, 97, 116, 101, 114] := by rw [hn.op, hop, bytes_toList]
  unfold MadeT typeG
  simp only [ao]
  exact type_Greater n A u vs w hop hn.ok hv hl (by omega) ht

theorem madeT_Where (hop : n.op = ⟨#[87, 104, 101, 114, 101]⟩) (hn : NodeAll w n ins A) (hv : ValsIn w u.v vs) (_ht : ∀ s ∈ tysOf vs, isTypeP s = true) (hl : vs.length = 3) : MadeT n A u vs w 2 := by
  obtain ⟨p0, p1, p2, rfl⟩ := len_three hl
  exact type_Where n A u p0 p1 p2 w hop hn.ok hv

theorem madeD_Where (hop : n.op = ⟨#[87, 104, 101, 114, 101]⟩) (hn : NodeAll w n ins A) (hv : ValsIn w u.v vs) (_hf : ∀ p ∈ vs, Fine p.2) (hl : vs.length = 3) : MadeD n A u vs w 3 := by
  obtain ⟨⟨v0, x⟩, ⟨v1, y⟩, ⟨v2, z⟩, rfl⟩ := len_three hl
  exact dims_Where n A u v0 v1 v2 x y z w hop hn.ok hv

theorem madeT_Cast (hop : n.op = ⟨#[67, 97, 115, 116]⟩) (hn : NodeAll w n ins A) (_hv : ValsIn w u.v vs) (_ht : ∀ s ∈ tysOf vs, isTypeP s = true) (_hl : vs.length = 1) : MadeT n A u vs w 1 := by
  exact type_Cast n A u w hop hn.ok

theorem madeT_ReduceSum (hop : n.op = ⟨#[82, 101, 100, 117, 99, 101, 83, 117, 109]⟩) (hn : NodeAll w n ins A) (hv : ValsIn w u.v vs) (ht : ∀ s ∈ tysOf vs, isTypeP s = true) (hl : vs.length = 1) : MadeT n A u vs w 5 := by
  exact type_ReduceSum n A u vs w hop hn.ok hv hl (by omega) ht

theorem madeT_ReduceMax (hop : n.op = ⟨#[82, 101, 100, 117, 99, 101, 77, 97, 120]⟩) (hn : NodeAll w n ins A) (hv : ValsIn w u.v vs) (ht : ∀ s ∈ tysOf vs, isTypeP s = true) (hl : vs.length = 1) : MadeT n A u vs w 5 := by
  exact type_ReduceMax n A u vs w hop hn.ok hv hl (by omega) ht

theorem madeT_ArgMax (hop : n.op = ⟨#[65, 114, 103, 77, 97, 120]⟩) (hn : NodeAll w n ins A) (hv : ValsIn w u.v vs) (ht : ∀ s ∈ tysOf vs, isTypeP s = true) (hl : vs.length = 1) : MadeT n A u vs w 6 := by
  exact type_ArgMax n A u vs w hop hn.ok hv hl (by omega) ht

theorem madeD_Expand (hop : n.op = ⟨#[69, 120, 112, 97, 110, 100]⟩) (hn : NodeAll w n ins A) (hv : ValsIn w u.v vs) (_hf : ∀ p ∈ vs, Fine p.2) (hl : vs.length = 1) : MadeD n A u vs w 7 := by
  obtain ⟨⟨v0, x⟩, rfl⟩ := len_one hl
  exact dims_Expand n A u v0 x w hop hn.ok hv 

theorem madeD_Concat (hop : n.op = ⟨#[67, 111, 110, 99, 97, 116]⟩) (hn : NodeAll w n ins A) (hv : ValsIn w u.v vs) (hf : ∀ p ∈ vs, Fine p.2) (hlo : 1 ≤ vs.length) (hhi : vs.length ≤ 20) : MadeD n A u vs w 9 := by
  match vs, hlo with
  | p0 :: rs, _ => exact dims_Concat n A u p0 rs w hop hn.ok hv (by simp at hhi; omega) hf

theorem madeT_Gather (hop : n.op = ⟨#[71, 97, 116, 104, 101, 114]⟩) (hn : NodeAll w n ins A) (hv : ValsIn w u.v vs) (ht : ∀ s ∈ tysOf vs, isTypeP s = true) (hl : vs.length = 2) : MadeT n A u vs w 4 := by
  exact type_Gather n A u vs w hop hn.ok hv hl (by omega) ht

theorem madeD_Gather (hop : n.op = ⟨#[71, 97, 116, 104, 101, 114]⟩) (hn : NodeAll w n ins A) (hv : ValsIn w u.v vs) (hf : ∀ p ∈ vs, Fine p.2) (hl : vs.length = 2) : MadeD n A u vs w 11 := by
  obtain ⟨⟨v0, x⟩, ⟨v1, y⟩, rfl⟩ := len_two hl
  exact dims_Gather n A u v0 v1 x y w hop hn.ok hv (hf (v0, x) (by simp)) (hf (v1, y) (by simp))

theorem madeD_Softmax (hop : n.op = ⟨#[83, 111, 102, 116, 109, 97, 120]⟩) (hn : NodeAll w n ins A) (hv : ValsIn w u.v vs) (hf : ∀ p ∈ vs, Fine p.2) (hl : vs.length = 1) : MadeD n A u vs w 4 := by
  obtain ⟨⟨v0, x⟩, rfl⟩ := len_one hl
  exact dims_Softmax n A u v0 x w hop hn.ok hv (hf (v0, x) (by simp))

theorem madeD_Gemm (hop : n.op = ⟨#[71, 101, 109, 109]⟩) (hn : NodeAll w n ins A) (hv : ValsIn w u.v vs) (_hf : ∀ p ∈ vs, Fine p.2) (hlo : 2 ≤ vs.length) (hhi : vs.length ≤ 3) : MadeD n A u vs w 17 := by
  match vs, hlo with
  | p0 :: p1 :: rest, _ =>
    have e : (((p0 :: p1 :: rest).map (·.2)).drop 2).head? = rest.head?.map (·.2) := by cases rest <;> rfl
    unfold MadeD dimsG dimsOf
    simp only [e]
    exact dims_Gemm n A u p0 p1 rest w hop hn.ok hv (by simp at hhi; omega)

theorem madeD_Conv (hop : n.op = ⟨#[67, 111, 110, 118]⟩) (hn : NodeAll w n ins A) (hv : ValsIn w u.v vs) (hf : ∀ p ∈ vs, Fine p.2) (hlo : 2 ≤ vs.length) (hhi : vs.length ≤ 3) : MadeD n A u vs w 18 := by
  match vs, hlo with
  | p0 :: p1 :: rest, _ =>
    have e : (((p0 :: p1 :: rest).map (·.2)).drop 2).head? = rest.head?.map (·.2) := by cases rest <;> rfl
    unfold MadeD dimsG dimsOf
    simp only [e]
    exact dims_Conv n A u p0 p1 rest w hop hn.ok hv (by simp at hhi; omega) hf

theorem madeD_GlobalAveragePool (hop : n.op = ⟨#[71, 108, 111, 98, 97, 108, 65, 118, 101, 114, 97, 103, 101, 80, 111, 111, 108]⟩) (hn : NodeAll w n ins A) (hv : ValsIn w u.v vs) (_hf : ∀ p ∈ vs, Fine p.2) (hl : vs.length = 1) : MadeD n A u vs w 20 := by
  obtain ⟨⟨v0, x⟩, rfl⟩ := len_one hl
  exact dims_GlobalAveragePool n A u v0 x w hop hn.ok hv 

theorem madeD_BatchNormalization (hop : n.op = ⟨#[66, 97, 116, 99, 104, 78, 111, 114, 109, 97, 108, 105, 122, 97, 116, 105, 111, 110]⟩) (hn : NodeAll w n ins A) (hv : ValsIn w u.v vs) (_hf : ∀ p ∈ vs, Fine p.2) (hl : vs.length = 5) : MadeD n A u vs w 21 := by
  match vs, hl with
  | p0 :: p1 :: rest, hl => exact dims_BatchNormalization n A u p0 p1 rest w hop hn.ok hv (by simp at hl; omega)

theorem madeT_Constant (hop : n.op = ⟨#[67, 111, 110, 115, 116, 97, 110, 116]⟩) (hn : NodeAll w n ins A) (_hv : ValsIn w u.v vs) (_ht : ∀ s ∈ tysOf vs, isTypeP s = true) (_hl : vs.length = 0) : MadeT n A u vs w 0 := by
  exact type_Constant n A u w hop hn.ok

theorem madeD_Constant (hop : n.op = ⟨#[67, 111, 110, 115, 116, 97, 110, 116]⟩) (hn : NodeAll w n ins A) (_hv : ValsIn w u.v vs) (_hf : ∀ p ∈ vs, Fine p.2) (_hl : vs.length = 0) : MadeD n A u vs w 0 := by
  rcases find_zip (P := isA ⟨#[118, 97, 108, 117, 101]⟩ 4) hn.node.has with ⟨e1, e2⟩ | ⟨a, c, e1, e2, e3⟩
  · have eD : valD A = [] := by unfold valD; rw [e2]
    have eV : valA A = noAtr := by unfold valA; rw [e1]; rfl
    unfold MadeD dimsG
    simp only [eD]
    exact dims_Constant n A u w hop hn.ok [] (by rw [eV]; exact ints_nilI w)
  · have eD : valD A = c.d := by unfold valD; rw [e2]
    have eV : valA A = a := by unfold valA; rw [e1]; rfl
    unfold MadeD dimsG
    simp only [eD]
    exact dims_Constant n A u w hop hn.ok c.d (by rw [eV]; exact e3.d)

end

theorem checkF_zero {op : ByteArray} {ins : List ByteArray} {out : ByteArray} {xs : List Atr} {cs : List Cont} (h : checkF (ruleF op) op ins out xs cs = 0) : ∃ r ∈ rules, r.1 = op.toList ∧ r.2.1 ≤ (ins.length : Int) ∧ (ins.length : Int) ≤ r.2.2.1 := by
  have h1 : checkE (ruleF op) ins out xs = 0 := by
    by_cases e : checkE (ruleF op) ins out xs = 0
    · exact e
    · rw [checkF_no rfl e] at h; exact absurd h e
  unfold ruleF at h1
  cases hf : rules.find? (fun r => r.1 == op.toList) with
  | none => rw [hf] at h1; simp [checkE] at h1
  | some r =>
    rw [hf] at h1
    obtain ⟨l, lo, hi, rs⟩ := r
    simp only [Option.map_some, checkE] at h1
    have hm := List.mem_of_find?_eq_some hf
    have he := List.find?_some hf
    refine ⟨_, hm, by simpa using he, ?_, ?_⟩
    · by_cases e : (ins.length : Int) < lo
      · rw [if_pos e] at h1; simp at h1
      · simp only; omega
    · by_cases e : (ins.length : Int) < lo
      · rw [if_pos e] at h1; simp at h1
      · rw [if_neg e] at h1
        by_cases e2 : hi < (ins.length : Int)
        · rw [if_pos e2] at h1; simp at h1
        · simp only; omega

theorem chk_zero (t : Int) : chk t 0 = isTypeP t := by
  unfold chk isTypeP
  by_cases h1 : t = 1
  · subst h1; decide
  · by_cases h6 : t = 6
    · subst h6; decide
    · by_cases h7 : t = 7
      · subst h7; decide
      · by_cases h9 : t = 9
        · subst h9; decide
        · simp [h1, h6, h7, h9]

theorem const_type {A : At} {op : ByteArray} {ins : List ByteArray} {out : ByteArray} {w : World} {n : Nod} (hn : NodeIn w n ins A.xs A.cs) (h : checkF (ruleF op) op ins out A.xs A.cs = 0) (ho : op.toList = [67, 111, 110, 115, 116, 97, 110, 116]) : isTypeP (valA A).ty = true := by
  have h1 : checkE (ruleF op) ins out A.xs = 0 := by
    by_cases e : checkE (ruleF op) ins out A.xs = 0
    · exact e
    · rw [checkF_no rfl e] at h; exact absurd h e
  unfold checkF at h
  rw [if_neg (by simp [h1]), if_pos (by simp [ho])] at h
  have key : ∀ ty d t, pbE ty d t = 0 → isTypeP ty = true := by
    intro ty d t hp
    unfold pbE at hp
    by_cases e : chk ty 0 = false
    · rw [if_pos e] at hp; simp at hp
    · have e' : chk ty 0 = true := by simpa using e
      rw [← chk_zero]
      exact e'
  rcases find_zip (P := isA ⟨#[118, 97, 108, 117, 101]⟩ 4) hn.has with ⟨e1, e2⟩ | ⟨a, c, e1, e2, e3⟩
  · have eV : valA A = noAtr := by unfold valA; rw [e1]; rfl
    unfold constE at h
    rw [e2] at h
    exact absurd (key _ _ _ h) (by decide)
  · have eV : valA A = a := by unfold valA; rw [e1]; rfl
    unfold constE at h
    rw [e2] at h
    rw [eV]
    exact key _ _ _ h

/-- For each operator: the group it belongs to, and what is made. -/
def Each (r : List UInt8 × Int × Int × List Ra) : Prop := ∀ (n : Nod) (ins : List ByteArray) (A : At) (u : Sl) (vs : List (Val × List Int)) (w : World), n.op.toList = r.1 → NodeAll w n ins A → ValsIn w u.v vs → (∀ s ∈ tysOf vs, isTypeP s = true) → (∀ p ∈ vs, Fine p.2) → r.2.1 ≤ (vs.length : Int) → (vs.length : Int) ≤ r.2.2.1 → MadeT n A u vs w (grp n.op).1 ∧ MadeD n A u vs w (grp n.op).2 ∧ ((grp n.op).1 = 0 → n.op.toList = [67, 111, 110, 115, 116, 97, 110, 116]) ∧ ((grp n.op).1 ≠ 0 → (grp n.op).1 ≠ 1 → 0 < vs.length) ∧ ((grp n.op).1 = 2 → 1 < vs.length)

theorem each_of {l : List UInt8} {lo hi : Int} {ra : List Ra} (t d : Nat) (hg : ((grps.find? (fun r => r.1 == l)).map (·.2)).getD (99, 99) = (t, d)) (hc : t = 0 → l = [67, 111, 110, 115, 116, 97, 110, 116]) (hp : t ≠ 0 → t ≠ 1 → 0 < lo) (hw : t = 2 → 1 < lo)
    (HT : ∀ (n : Nod) (ins : List ByteArray) (A : At) (u : Sl) (vs : List (Val × List Int)) (w : World), n.op = ⟨l.toArray⟩ → NodeAll w n ins A → ValsIn w u.v vs → (∀ s ∈ tysOf vs, isTypeP s = true) → lo ≤ (vs.length : Int) → (vs.length : Int) ≤ hi → MadeT n A u vs w t)
    (HD : ∀ (n : Nod) (ins : List ByteArray) (A : At) (u : Sl) (vs : List (Val × List Int)) (w : World), n.op = ⟨l.toArray⟩ → NodeAll w n ins A → ValsIn w u.v vs → (∀ p ∈ vs, Fine p.2) → lo ≤ (vs.length : Int) → (vs.length : Int) ≤ hi → MadeD n A u vs w d) : Each (l, lo, hi, ra) := by
  intro n ins A u vs w ho hn hv ht hf h1 h2
  have hop : n.op = ⟨l.toArray⟩ := op_of_list ho
  have hgg : grp n.op = (t, d) := by unfold grp; rw [ho]; exact hg
  rw [hgg]
  simp only at h1 h2 ho ⊢
  exact ⟨HT n ins A u vs w hop hn hv ht h1 h2, HD n ins A u vs w hop hn hv hf h1 h2, fun h => ho.trans (hc h), fun h h' => by have := hp h h'; omega, fun h => by have := hw h; omega⟩

set_option maxRecDepth 100000 in
theorem each_all : ∀ r ∈ rules, Each r := by
  unfold rules
  simp only [List.forall_mem_cons]
  exact ⟨each_of 10 1 rfl (by decide) (by decide) (by decide) (fun n ins A u vs w hop hn hv ht h1 h2 => tm_one (by rw [hop]; exact List.mem_of_getElem? (i := 0) rfl) hn hv ht (by omega) (by omega)) (fun n ins A u vs w hop hn hv hf h1 h2 => dm_x (by rw [hop]; exact List.mem_of_getElem? (i := 0) rfl) hn hv hf (by omega)),
    each_of 10 1 rfl (by decide) (by decide) (by decide) (fun n ins A u vs w hop hn hv ht h1 h2 => tm_one (by rw [hop]; exact List.mem_of_getElem? (i := 1) rfl) hn hv ht (by omega) (by omega)) (fun n ins A u vs w hop hn hv hf h1 h2 => dm_x (by rw [hop]; exact List.mem_of_getElem? (i := 1) rfl) hn hv hf (by omega)),
    each_of 10 1 rfl (by decide) (by decide) (by decide) (fun n ins A u vs w hop hn hv ht h1 h2 => tm_one (by rw [hop]; exact List.mem_of_getElem? (i := 2) rfl) hn hv ht (by omega) (by omega)) (fun n ins A u vs w hop hn hv hf h1 h2 => dm_x (by rw [hop]; exact List.mem_of_getElem? (i := 2) rfl) hn hv hf (by omega)),
    each_of 10 1 rfl (by decide) (by decide) (by decide) (fun n ins A u vs w hop hn hv ht h1 h2 => tm_one (by rw [hop]; exact List.mem_of_getElem? (i := 3) rfl) hn hv ht (by omega) (by omega)) (fun n ins A u vs w hop hn hv hf h1 h2 => dm_x (by rw [hop]; exact List.mem_of_getElem? (i := 3) rfl) hn hv hf (by omega)),
    each_of 10 1 rfl (by decide) (by decide) (by decide) (fun n ins A u vs w hop hn hv ht h1 h2 => tm_one (by rw [hop]; exact List.mem_of_getElem? (i := 4) rfl) hn hv ht (by omega) (by omega)) (fun n ins A u vs w hop hn hv hf h1 h2 => dm_x (by rw [hop]; exact List.mem_of_getElem? (i := 4) rfl) hn hv hf (by omega)),
    each_of 10 1 rfl (by decide) (by decide) (by decide) (fun n ins A u vs w hop hn hv ht h1 h2 => tm_one (by rw [hop]; exact List.mem_of_getElem? (i := 5) rfl) hn hv ht (by omega) (by omega)) (fun n ins A u vs w hop hn hv hf h1 h2 => dm_x (by rw [hop]; exact List.mem_of_getElem? (i := 5) rfl) hn hv hf (by omega)),
    each_of 10 1 rfl (by decide) (by decide) (by decide) (fun n ins A u vs w hop hn hv ht h1 h2 => tm_one (by rw [hop]; exact List.mem_of_getElem? (i := 6) rfl) hn hv ht (by omega) (by omega)) (fun n ins A u vs w hop hn hv hf h1 h2 => dm_x (by rw [hop]; exact List.mem_of_getElem? (i := 6) rfl) hn hv hf (by omega)),
    each_of 10 1 rfl (by decide) (by decide) (by decide) (fun n ins A u vs w hop hn hv ht h1 h2 => tm_one (by rw [hop]; exact List.mem_of_getElem? (i := 7) rfl) hn hv ht (by omega) (by omega)) (fun n ins A u vs w hop hn hv hf h1 h2 => dm_x (by rw [hop]; exact List.mem_of_getElem? (i := 7) rfl) hn hv hf (by omega)),
    each_of 10 1 rfl (by decide) (by decide) (by decide) (fun n ins A u vs w hop hn hv ht h1 h2 => tm_one (by rw [hop]; exact List.mem_of_getElem? (i := 8) rfl) hn hv ht (by omega) (by omega)) (fun n ins A u vs w hop hn hv hf h1 h2 => dm_x (by rw [hop]; exact List.mem_of_getElem? (i := 8) rfl) hn hv hf (by omega)),
    each_of 10 1 rfl (by decide) (by decide) (by decide) (fun n ins A u vs w hop hn hv ht h1 h2 => tm_one (by rw [hop]; exact List.mem_of_getElem? (i := 9) rfl) hn hv ht (by omega) (by omega)) (fun n ins A u vs w hop hn hv hf h1 h2 => dm_x (by rw [hop]; exact List.mem_of_getElem? (i := 9) rfl) hn hv hf (by omega)),
    each_of 9 2 rfl (by decide) (by decide) (by decide) (fun n ins A u vs w hop hn hv ht h1 h2 => tm_two (by rw [hop]; exact List.mem_of_getElem? (i := 0) rfl) hn hv ht (by omega) (by omega)) (fun n ins A u vs w hop hn hv hf h1 h2 => dm_two (by rw [hop]; exact List.mem_of_getElem? (i := 0) rfl) hn hv hf (by omega)),
    each_of 9 2 rfl (by decide) (by decide) (by decide) (fun n ins A u vs w hop hn hv ht h1 h2 => tm_two (by rw [hop]; exact List.mem_of_getElem? (i := 1) rfl) hn hv ht (by omega) (by omega)) (fun n ins A u vs w hop hn hv hf h1 h2 => dm_two (by rw [hop]; exact List.mem_of_getElem? (i := 1) rfl) hn hv hf (by omega)),
    each_of 9 2 rfl (by decide) (by decide) (by decide) (fun n ins A u vs w hop hn hv ht h1 h2 => tm_two (by rw [hop]; exact List.mem_of_getElem? (i := 2) rfl) hn hv ht (by omega) (by omega)) (fun n ins A u vs w hop hn hv hf h1 h2 => dm_two (by rw [hop]; exact List.mem_of_getElem? (i := 2) rfl) hn hv hf (by omega)),
    each_of 9 2 rfl (by decide) (by decide) (by decide) (fun n ins A u vs w hop hn hv ht h1 h2 => tm_two (by rw [hop]; exact List.mem_of_getElem? (i := 3) rfl) hn hv ht (by omega) (by omega)) (fun n ins A u vs w hop hn hv hf h1 h2 => dm_two (by rw [hop]; exact List.mem_of_getElem? (i := 3) rfl) hn hv hf (by omega)),
    each_of 9 2 rfl (by decide) (by decide) (by decide) (fun n ins A u vs w hop hn hv ht h1 h2 => tm_two (by rw [hop]; exact List.mem_of_getElem? (i := 4) rfl) hn hv ht (by omega) (by omega)) (fun n ins A u vs w hop hn hv hf h1 h2 => dm_two (by rw [hop]; exact List.mem_of_getElem? (i := 4) rfl) hn hv hf (by omega)),
    each_of 9 2 rfl (by decide) (by decide) (by decide) (fun n ins A u vs w hop hn hv ht h1 h2 => tm_two (by rw [hop]; exact List.mem_of_getElem? (i := 5) rfl) hn hv ht (by omega) (by omega)) (fun n ins A u vs w hop hn hv hf h1 h2 => dm_two (by rw [hop]; exact List.mem_of_getElem? (i := 5) rfl) hn hv hf (by omega)),
    each_of 9 2 rfl (by decide) (by decide) (by decide) (fun n ins A u vs w hop hn hv ht h1 h2 => tm_two (by rw [hop]; exact List.mem_of_getElem? (i := 6) rfl) hn hv ht (by omega) (by omega)) (fun n ins A u vs w hop hn hv hf h1 h2 => dm_two (by rw [hop]; exact List.mem_of_getElem? (i := 6) rfl) hn hv hf (by omega)),
    each_of 9 2 rfl (by decide) (by decide) (by decide) (fun n ins A u vs w hop hn hv ht h1 h2 => tm_two (by rw [hop]; exact List.mem_of_getElem? (i := 7) rfl) hn hv ht (by omega) (by omega)) (fun n ins A u vs w hop hn hv hf h1 h2 => dm_two (by rw [hop]; exact List.mem_of_getElem? (i := 7) rfl) hn hv hf (by omega)),
    each_of 9 2 rfl (by decide) (by decide) (by decide) (fun n ins A u vs w hop hn hv ht h1 h2 => tm_two (by rw [hop]; exact List.mem_of_getElem? (i := 8) rfl) hn hv ht (by omega) (by omega)) (fun n ins A u vs w hop hn hv hf h1 h2 => dm_two (by rw [hop]; exact List.mem_of_getElem? (i := 8) rfl) hn hv hf (by omega)),
    each_of 8 2 rfl (by decide) (by decide) (by decide) (fun n ins A u vs w hop hn hv ht h1 h2 => madeT_Equal hop hn hv ht (by omega)) (fun n ins A u vs w hop hn hv hf h1 h2 => dm_two (by rw [hop]; exact List.mem_of_getElem? (i := 9) rfl) hn hv hf (by omega)),
    each_of 8 2 rfl (by decide) (by decide) (by decide) (fun n ins A u vs w hop hn hv ht h1 h2 => madeT_Less hop hn hv ht (by omega)) (fun n ins A u vs w hop hn hv hf h1 h2 => dm_two (by rw [hop]; exact List.mem_of_getElem? (i := 10) rfl) hn hv hf (by omega)),
    each_of 8 2 rfl (by decide) (by decide) (by decide) (fun n ins A u vs w hop hn hv ht h1 h2 => madeT_Greater hop hn hv ht (by omega)) (fun n ins A u vs w hop hn hv hf h1 h2 => dm_two (by rw [hop]; exact List.mem_of_getElem? (i := 11) rfl) hn hv hf (by omega)),
    each_of 7 16 rfl (by decide) (by decide) (by decide) (fun n ins A u vs w hop hn hv ht h1 h2 => tm_float (by rw [hop]; exact List.mem_of_getElem? (i := 4) rfl) hn hv ht (by omega) (by omega)) (fun n ins A u vs w hop hn hv hf h1 h2 => dm_product (by rw [hop]; exact List.mem_of_getElem? (i := 0) rfl) hn hv hf (by omega)),
    each_of 2 3 rfl (by decide) (by decide) (by decide) (fun n ins A u vs w hop hn hv ht h1 h2 => madeT_Where hop hn hv ht (by omega)) (fun n ins A u vs w hop hn hv hf h1 h2 => madeD_Where hop hn hv hf (by omega)),
    each_of 7 1 rfl (by decide) (by decide) (by decide) (fun n ins A u vs w hop hn hv ht h1 h2 => tm_float (by rw [hop]; exact List.mem_of_getElem? (i := 0) rfl) hn hv ht (by omega) (by omega)) (fun n ins A u vs w hop hn hv hf h1 h2 => dm_x (by rw [hop]; exact List.mem_of_getElem? (i := 10) rfl) hn hv hf (by omega)),
    each_of 1 1 rfl (by decide) (by decide) (by decide) (fun n ins A u vs w hop hn hv ht h1 h2 => madeT_Cast hop hn hv ht (by omega)) (fun n ins A u vs w hop hn hv hf h1 h2 => dm_x (by rw [hop]; exact List.mem_of_getElem? (i := 11) rfl) hn hv hf (by omega)),
    each_of 5 5 rfl (by decide) (by decide) (by decide) (fun n ins A u vs w hop hn hv ht h1 h2 => madeT_ReduceSum hop hn hv ht (by omega)) (fun n ins A u vs w hop hn hv hf h1 h2 => dm_reduced (by rw [hop]; exact List.mem_of_getElem? (i := 0) rfl) hn hv hf (by omega)),
    each_of 5 5 rfl (by decide) (by decide) (by decide) (fun n ins A u vs w hop hn hv ht h1 h2 => madeT_ReduceMax hop hn hv ht (by omega)) (fun n ins A u vs w hop hn hv hf h1 h2 => dm_reduced (by rw [hop]; exact List.mem_of_getElem? (i := 1) rfl) hn hv hf (by omega)),
    each_of 7 5 rfl (by decide) (by decide) (by decide) (fun n ins A u vs w hop hn hv ht h1 h2 => tm_float (by rw [hop]; exact List.mem_of_getElem? (i := 2) rfl) hn hv ht (by omega) (by omega)) (fun n ins A u vs w hop hn hv hf h1 h2 => dm_reduced (by rw [hop]; exact List.mem_of_getElem? (i := 2) rfl) hn hv hf (by omega)),
    each_of 6 5 rfl (by decide) (by decide) (by decide) (fun n ins A u vs w hop hn hv ht h1 h2 => madeT_ArgMax hop hn hv ht (by omega)) (fun n ins A u vs w hop hn hv hf h1 h2 => dm_reduced (by rw [hop]; exact List.mem_of_getElem? (i := 3) rfl) hn hv hf (by omega)),
    each_of 3 6 rfl (by decide) (by decide) (by decide) (fun n ins A u vs w hop hn hv ht h1 h2 => tm_same (by rw [hop]; exact List.mem_of_getElem? (i := 1) rfl) hn hv ht (by omega) (by omega)) (fun n ins A u vs w hop hn hv hf h1 h2 => dm_reshape (by rw [hop]; exact List.mem_of_getElem? (i := 0) rfl) hn hv hf (by omega)),
    each_of 3 7 rfl (by decide) (by decide) (by decide) (fun n ins A u vs w hop hn hv ht h1 h2 => tm_same (by rw [hop]; exact List.mem_of_getElem? (i := 2) rfl) hn hv ht (by omega) (by omega)) (fun n ins A u vs w hop hn hv hf h1 h2 => madeD_Expand hop hn hv hf (by omega)),
    each_of 3 8 rfl (by decide) (by decide) (by decide) (fun n ins A u vs w hop hn hv ht h1 h2 => tm_same (by rw [hop]; exact List.mem_of_getElem? (i := 3) rfl) hn hv ht (by omega) (by omega)) (fun n ins A u vs w hop hn hv hf h1 h2 => dm_transposed (by rw [hop]; exact List.mem_of_getElem? (i := 0) rfl) hn hv hf (by omega)),
    each_of 3 9 rfl (by decide) (by decide) (by decide) (fun n ins A u vs w hop hn hv ht h1 h2 => tm_same (by rw [hop]; exact List.mem_of_getElem? (i := 0) rfl) hn hv ht (by omega) (by omega)) (fun n ins A u vs w hop hn hv hf h1 h2 => madeD_Concat hop hn hv hf (by omega) (by omega)),
    each_of 3 10 rfl (by decide) (by decide) (by decide) (fun n ins A u vs w hop hn hv ht h1 h2 => tm_same (by rw [hop]; exact List.mem_of_getElem? (i := 4) rfl) hn hv ht (by omega) (by omega)) (fun n ins A u vs w hop hn hv hf h1 h2 => dm_sliced (by rw [hop]; exact List.mem_of_getElem? (i := 0) rfl) hn hv hf (by omega)),
    each_of 4 11 rfl (by decide) (by decide) (by decide) (fun n ins A u vs w hop hn hv ht h1 h2 => madeT_Gather hop hn hv ht (by omega)) (fun n ins A u vs w hop hn hv hf h1 h2 => madeD_Gather hop hn hv hf (by omega)),
    each_of 7 12 rfl (by decide) (by decide) (by decide) (fun n ins A u vs w hop hn hv ht h1 h2 => tm_float (by rw [hop]; exact List.mem_of_getElem? (i := 3) rfl) hn hv ht (by omega) (by omega)) (fun n ins A u vs w hop hn hv hf h1 h2 => dm_pad (by rw [hop]; exact List.mem_of_getElem? (i := 0) rfl) hn hv hf (by omega)),
    each_of 3 13 rfl (by decide) (by decide) (by decide) (fun n ins A u vs w hop hn hv ht h1 h2 => tm_same (by rw [hop]; exact List.mem_of_getElem? (i := 5) rfl) hn hv ht (by omega) (by omega)) (fun n ins A u vs w hop hn hv hf h1 h2 => dm_squeeze (by rw [hop]; exact List.mem_of_getElem? (i := 0) rfl) hn hv hf (by omega)),
    each_of 3 14 rfl (by decide) (by decide) (by decide) (fun n ins A u vs w hop hn hv ht h1 h2 => tm_same (by rw [hop]; exact List.mem_of_getElem? (i := 6) rfl) hn hv ht (by omega) (by omega)) (fun n ins A u vs w hop hn hv hf h1 h2 => dm_unsqueeze (by rw [hop]; exact List.mem_of_getElem? (i := 0) rfl) hn hv hf (by omega)),
    each_of 3 15 rfl (by decide) (by decide) (by decide) (fun n ins A u vs w hop hn hv ht h1 h2 => tm_same (by rw [hop]; exact List.mem_of_getElem? (i := 7) rfl) hn hv ht (by omega) (by omega)) (fun n ins A u vs w hop hn hv hf h1 h2 => dm_flattened (by rw [hop]; exact List.mem_of_getElem? (i := 0) rfl) hn hv hf (by omega)),
    each_of 7 4 rfl (by decide) (by decide) (by decide) (fun n ins A u vs w hop hn hv ht h1 h2 => tm_float (by rw [hop]; exact List.mem_of_getElem? (i := 1) rfl) hn hv ht (by omega) (by omega)) (fun n ins A u vs w hop hn hv hf h1 h2 => madeD_Softmax hop hn hv hf (by omega)),
    each_of 7 17 rfl (by decide) (by decide) (by decide) (fun n ins A u vs w hop hn hv ht h1 h2 => tm_float (by rw [hop]; exact List.mem_of_getElem? (i := 5) rfl) hn hv ht (by omega) (by omega)) (fun n ins A u vs w hop hn hv hf h1 h2 => madeD_Gemm hop hn hv hf (by omega) (by omega)),
    each_of 7 18 rfl (by decide) (by decide) (by decide) (fun n ins A u vs w hop hn hv ht h1 h2 => tm_float (by rw [hop]; exact List.mem_of_getElem? (i := 6) rfl) hn hv ht (by omega) (by omega)) (fun n ins A u vs w hop hn hv hf h1 h2 => madeD_Conv hop hn hv hf (by omega) (by omega)),
    each_of 7 19 rfl (by decide) (by decide) (by decide) (fun n ins A u vs w hop hn hv ht h1 h2 => tm_float (by rw [hop]; exact List.mem_of_getElem? (i := 7) rfl) hn hv ht (by omega) (by omega)) (fun n ins A u vs w hop hn hv hf h1 h2 => dm_pooled (by rw [hop]; exact List.mem_of_getElem? (i := 0) rfl) hn hv hf (by omega)),
    each_of 7 19 rfl (by decide) (by decide) (by decide) (fun n ins A u vs w hop hn hv ht h1 h2 => tm_float (by rw [hop]; exact List.mem_of_getElem? (i := 8) rfl) hn hv ht (by omega) (by omega)) (fun n ins A u vs w hop hn hv hf h1 h2 => dm_pooled (by rw [hop]; exact List.mem_of_getElem? (i := 1) rfl) hn hv hf (by omega)),
    each_of 7 20 rfl (by decide) (by decide) (by decide) (fun n ins A u vs w hop hn hv ht h1 h2 => tm_float (by rw [hop]; exact List.mem_of_getElem? (i := 9) rfl) hn hv ht (by omega) (by omega)) (fun n ins A u vs w hop hn hv hf h1 h2 => madeD_GlobalAveragePool hop hn hv hf (by omega)),
    each_of 7 21 rfl (by decide) (by decide) (by decide) (fun n ins A u vs w hop hn hv ht h1 h2 => tm_float (by rw [hop]; exact List.mem_of_getElem? (i := 10) rfl) hn hv ht (by omega) (by omega)) (fun n ins A u vs w hop hn hv hf h1 h2 => madeD_BatchNormalization hop hn hv hf (by omega)),
    each_of 0 0 rfl (by decide) (by decide) (by decide) (fun n ins A u vs w hop hn hv ht h1 h2 => madeT_Constant hop hn hv ht (by omega)) (fun n ins A u vs w hop hn hv hf h1 h2 => madeD_Constant hop hn hv hf (by omega)), fun r hr => absurd hr (List.not_mem_nil)⟩

/-- What Out answers of any node and any values. -/
def outF (n : Nod) (ins : List ByteArray) (A : At) (vs : List (Val × List Int)) : R (Int × List Int) :=
  valueP (checkF (ruleF n.op) n.op ins n.out A.xs A.cs) (decide (vs.length = ins.length)) vs (typeG A (tysOf vs) (grp n.op).1) (dimsG A (dimsOf vs) (grp n.op).2) (thenL (A.xs.find? (isA ⟨#[116, 104, 101, 110]⟩ 3)))

theorem made_of {n : Nod} {ins : List ByteArray} {A : At} {u : Sl} {vs : List (Val × List Int)} {w : World} (hn : NodeAll w n ins A) (hv : ValsIn w u.v vs) (hc : checkF (ruleF n.op) n.op ins n.out A.xs A.cs = 0) (hl : vs.length = ins.length) (hi : vinP vs = .ok ()) : Calls Tryz.prog 74 #[nval n, .slice u.a u.n u.c] w (Ended w (typeG A (tysOf vs) (grp n.op).1) fun t v _ => v = .int .i64 t ∧ isTypeP t = true) ∧ Calls Tryz.prog 75 #[nval n, .slice u.a u.n u.c] w (Ended w (dimsG A (dimsOf vs) (grp n.op).2) DimsQ) := by
  obtain ⟨r, hr, h1, h2, h3⟩ := checkF_zero hc
  have hall := vinP_all hi
  have ht : ∀ s ∈ tysOf vs, isTypeP s = true := by
    intro s hs
    obtain ⟨p, hp, rfl⟩ := List.mem_map.1 hs
    exact (hall p hp).1
  rw [← hl] at h2 h3
  obtain ⟨a1, a2, a3, a4, a5⟩ := each_all r hr n ins A u vs w h1.symm hn hv ht (fun p hp => (hall p hp).2) h2 h3
  refine ⟨a1.mono fun e w' he => ended_mono he fun t v e1 e2 => ⟨e2, ?_⟩, a2⟩
  have hlen : (tysOf vs).length = vs.length := List.length_map ..
  exact typeG_ok e1 (fun h0 => const_type hn.node hc (a3 h0)) ht (fun x y => by rw [hlen]; exact a4 x y) (fun x => by rw [hlen]; exact a5 x)

theorem out_of (n : Nod) (ins : List ByteArray) (A : At) (u : Sl) (vs : List (Val × List Int)) (w : World) (hl : Laid w) (hn : NodeAll w n ins A) (hv : ValsIn w u.v vs) : Calls Tryz.prog 27 #[nval n, .slice u.a u.n u.c] w (AttQ n.out w (outF n ins A vs)) := by
  refine out_any n u _ w fun wx hx => ?_
  have ho := hn.out
  refine (valueof_any n A ins u vs wx (hl.more hx) (hn.more hx).node (hv.more hx) (by omega) (typeG A (tysOf vs) (grp n.op).1) (dimsG A (dimsOf vs) (grp n.op).2) (fun hc hll hi wy hy => (made_of (hn.more (grown_trans hx hy)) (hv.more (grown_trans hx hy)) hc hll hi).1) (fun hc hll hi wy hy => (made_of (hn.more (grown_trans hx hy)) (hv.more (grown_trans hx hy)) hc hll hi).2)).mono fun e w' he => ?_
  exact ended_mono he fun r v e1 e2 => e2
end Go.Proofs.YteigfipgmghgmaaGreatDoor
