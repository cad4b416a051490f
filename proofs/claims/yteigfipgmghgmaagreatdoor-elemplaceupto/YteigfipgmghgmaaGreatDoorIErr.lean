/- What infer answers, in plain facts: errors are not nought; names and places make no difference; two in either order. -/
import Derived.Test.YteigfipgmghgmaaGreatDoorIAll
namespace Go.Proofs.YteigfipgmghgmaaGreatDoor

/-- An error is never nought. -/
def NZ {α : Type} (r : R α) : Prop := ∀ c, r = .error c → c ≠ 0

theorem NZ.ok {α : Type} {a : α} : NZ (.ok a : R α) := fun c h => by cases h
theorem NZ.err {α : Type} {c : Int} (h : c ≠ 0) : NZ (.error c : R α) := fun d e => by cases e; exact h
theorem NZ.bind {α β : Type} {r : R α} {f : α → R β} (h : NZ r) (hf : ∀ a, r = .ok a → NZ (f a)) : NZ (r.bind f) := by
  cases r with
  | error c => exact fun d e => h d (by cases e; rfl)
  | ok a => exact hf a rfl
theorem NZ.must {b : Bool} : NZ (mustP b) := by
  unfold mustP
  split
  · exact .ok
  · exact .err (by decide)
theorem NZ.stop {e : Int} : NZ (stopP e) := by
  unfold stopP
  split
  · exact .ok
  · exact .err (by assumption)
theorem NZ.typ {t : Int} : NZ (typP t) := by
  unfold typP
  split
  · exact .ok
  · exact .err (by decide)
theorem NZ.count {zs : List Int} : NZ (countP zs) := by
  unfold countP
  split
  · exact .ok
  · exact .err (by assumption)
theorem NZ.spread {a b : List Int} : NZ (spreadP a b) := by
  unfold spreadP
  split
  · exact .ok
  · exact .err (by assumption)
theorem NZ.axis {a : Int} {r : Nat} : NZ (axisP a r) := by
  unfold axisP
  split
  · exact .ok
  · exact .err (by decide)
theorem NZ.axes {l : List Int} {r : Nat} : NZ (axesP l r) := by
  unfold axesP
  split
  · exact .ok
  · exact .err (by decide)
theorem NZ.isOn {x : Int} : NZ (isOnP x) := by
  unfold isOnP
  split
  · exact .ok
  · split
    · exact .ok
    · exact .err (by decide)
theorem NZ.same {l : List Int} : NZ (sameP l) := by
  cases l with
  | nil => exact .ok
  | cons t l =>
    simp only [sameP]
    split
    · exact .ok
    · exact .err (by decide)

theorem NZ.shape {x : List Int} {count : Int} : ∀ {l : List Int} {i : Nat} {left : Option Nat} {known : Int} {dims : List Int}, NZ (shapeP x count l i left known dims)
  | [], _, _, _, _ => .ok
  | d :: l, i, left, known, dims => by
    unfold shapeP
    refine NZ.bind ?_ fun a _ => NZ.bind .must fun _ _ => NZ.bind .must fun _ _ => NZ.shape
    split
    · split
      · exact .ok
      · exact .err (by decide)
    · split
      · split
        · exact .ok
        · exact .err (by decide)
      · exact .ok

theorem NZ.map {α β : Type} {r : R α} {f : α → β} (h : NZ r) : NZ (r.map f) := by
  cases r with
  | error c => exact fun d e => h d (by cases e; rfl)
  | ok a => exact .ok

theorem NZ.perm {x : List Int} : ∀ {l : List Int}, NZ (permL x l)
  | [] => .ok
  | p :: l => by
    unfold permL
    split
    · exact NZ.map NZ.perm
    · exact .err (by decide)

theorem NZ.join {a : Nat} : ∀ {l : List (List Int)} {d : List Int}, NZ (joinL a l d)
  | [], _ => .ok
  | _ :: _, _ => NZ.bind .must fun _ _ => NZ.bind .must fun _ _ => NZ.join

theorem NZ.slice {x : List Int} : ∀ {al ss es d : List Int}, NZ (sliceL x al ss es d)
  | [], _, _, _ => by unfold sliceL; exact .ok
  | _ :: _, [], _, _ => by unfold sliceL; exact .ok
  | _ :: _, _ :: _, [], _ => by unfold sliceL; exact .ok
  | _ :: _, _ :: _, _ :: _, _ => NZ.bind .axis fun _ _ => NZ.bind .must fun _ _ => NZ.slice

theorem NZ.pad {r : Nat} : ∀ {l : List Int} {i : Nat} {d : List Int}, NZ (padL r l i d)
  | [], _, _ => .ok
  | _ :: _, _, _ => NZ.bind .must fun _ _ => NZ.pad

theorem NZ.squeeze : ∀ {l : List Int} {g : List Bool}, NZ (squeezeL l g)
  | [], _ => by unfold squeezeL; exact .ok
  | _ :: _, [] => by unfold squeezeL; exact .ok
  | d :: l, g :: gs => by
    unfold squeezeL
    split
    · split
      · exact NZ.squeeze
      · exact .err (by decide)
    · exact NZ.map NZ.squeeze

theorem NZ.within {l : List Int} {m : Nat} {b : Int} : NZ (withinP l m b) := NZ.bind .must fun _ _ => NZ.bind .must fun _ _ => .ok

theorem NZ.places {A : At} {x k : List Int} {n : Nat} : NZ (placesP A x k n) := NZ.bind .within fun _ _ => NZ.bind .within fun _ _ => NZ.bind .within fun _ _ => NZ.bind .must fun _ _ => .ok

theorem NZ.product {x y : List Int} : NZ (productP x y) := NZ.bind .must fun _ _ => NZ.bind .must fun _ _ => NZ.bind .spread fun _ _ => .ok

theorem NZ.turned {x : List Int} {t : Int} : NZ (turnedP x t) := NZ.bind .must fun _ _ => NZ.bind .isOn fun _ _ => .ok

theorem NZ.gemm {A : At} {x y : List Int} {z : Option (List Int)} : NZ (gemmP A x y z) := by
  refine NZ.bind .turned fun _ _ => NZ.bind .turned fun _ _ => NZ.bind .product fun _ _ => ?_
  cases z with
  | none => exact .ok
  | some c => exact NZ.bind .spread fun _ _ => NZ.bind .must fun _ _ => .ok

theorem NZ.conv {A : At} {x y : List Int} {z : Option (List Int)} : NZ (convolvedP A x y z) := NZ.bind .must fun _ _ => NZ.bind .must fun _ _ => NZ.bind .must fun _ _ => NZ.bind .must fun _ _ => NZ.bind .places fun _ _ => NZ.bind .places fun _ _ => .ok

theorem NZ.dims {A : At} {D : List (List Int)} {g : Nat} : NZ (dimsG A D g) := by
  match g with
  | 0 => exact .ok
  | 1 => exact .ok
  | 2 => exact .spread
  | 3 => exact NZ.bind .spread fun _ _ => .spread
  | 4 => exact NZ.bind .axes fun _ _ => .ok
  | 5 => exact NZ.bind .isOn fun _ _ => NZ.bind .axes fun _ _ => .ok
  | 6 => exact NZ.bind .count fun _ _ => NZ.bind .shape fun _ _ => NZ.bind .must fun _ _ => .ok
  | 7 => exact .spread
  | 8 => exact NZ.bind .must fun _ _ => NZ.bind .axes fun _ _ => .perm
  | 9 => exact NZ.bind .axis fun _ _ => .join
  | 10 => exact NZ.bind .must fun _ _ => NZ.bind .axes fun _ _ => .slice
  | 11 => exact NZ.bind .axis fun _ _ => .ok
  | 12 => exact NZ.bind .must fun _ _ => .pad
  | 13 => exact NZ.bind .axes fun _ _ => .squeeze
  | 14 => exact NZ.bind .axes fun _ _ => .ok
  | 15 => exact NZ.bind .must fun _ _ => NZ.bind .count fun _ _ => NZ.bind .count fun _ _ => .ok
  | 16 => exact .product
  | 17 => exact .gemm
  | 18 => exact .conv
  | 19 => exact NZ.bind .must fun _ _ => NZ.bind .within fun _ _ => NZ.bind .within fun _ _ => NZ.bind .must fun _ _ => NZ.bind .places fun _ _ => NZ.bind .places fun _ _ => .ok
  | 20 => exact NZ.bind .must fun _ _ => .ok
  | 21 => exact NZ.bind .must fun _ _ => NZ.bind .must fun _ _ => .ok
  | n + 22 => exact .err (by decide)

theorem NZ.type {A : At} {ts : List Int} {g : Nat} : NZ (typeG A ts g) := by
  match g with
  | 0 => exact .ok
  | 1 => exact NZ.bind .typ fun _ _ => .ok
  | 2 => exact NZ.bind .must fun _ _ => .same
  | 3 => exact .same
  | 4 => exact NZ.bind .must fun _ _ => .ok
  | 5 => exact NZ.bind .must fun _ _ => .ok
  | 6 => exact NZ.bind .must fun _ _ => .ok
  | 7 => exact NZ.bind .same fun _ _ => NZ.bind .must fun _ _ => .ok
  | 8 => exact NZ.bind .same fun _ _ => NZ.bind .must fun _ _ => .ok
  | 9 => exact NZ.bind .same fun _ _ => NZ.bind .must fun _ _ => .ok
  | 10 => exact NZ.bind .same fun _ _ => NZ.bind .must fun _ _ => .ok
  | n + 11 => exact .err (by decide)

theorem NZ.vin : ∀ {vs : List (Val × List Int)}, NZ (vinP vs)
  | [] => .ok
  | _ :: _ => NZ.bind .typ fun _ _ => NZ.bind .count fun _ _ => NZ.vin

theorem NZ.thens {t : Int} : ∀ {os : List ByteArray}, NZ (thenP t os)
  | [] => .ok
  | _ :: _ => NZ.bind .must fun _ _ => NZ.thens

theorem outF_err {n : Nod} {ins : List ByteArray} {A : At} {vs : List (Val × List Int)} {c : Int} (h : outF n ins A vs = .error c) : c ≠ 0 :=
  (NZ.bind .stop fun _ _ => NZ.bind .must fun _ _ => NZ.bind .vin fun _ _ => NZ.bind .type fun _ _ => NZ.bind .dims fun _ _ => NZ.bind .count fun _ _ => NZ.bind .thens fun _ _ => .ok : NZ (outF n ins A vs)) c h

/-- What an answer says. -/
structure OutOk (n : Nod) (ins : List ByteArray) (A : At) (vs : List (Val × List Int)) (r : Int × List Int) : Prop where
  chk : checkF (ruleF n.op) n.op ins n.out A.xs A.cs = 0
  len : vs.length = ins.length
  vin : vinP vs = .ok ()
  typ : typeG A (tysOf vs) (grp n.op).1 = .ok r.1
  dim : dimsG A (dimsOf vs) (grp n.op).2 = .ok r.2
  cnt : cntE r.2 = 0
  thn : thenP r.1 (thenL (A.xs.find? (isA ⟨#[116, 104, 101, 110]⟩ 3))) = .ok ()

theorem must_ok {b : Bool} {u : Unit} (h : mustP b = .ok u) : b = true := by
  unfold mustP at h
  split at h
  · assumption
  · cases h

theorem stop_ok' {e : Int} {u : Unit} (h : stopP e = .ok u) : e = 0 := by
  unfold stopP at h
  split at h
  · assumption
  · cases h

theorem count_ok' {zs : List Int} {c : Int} (h : countP zs = .ok c) : cntE zs = 0 := by
  unfold countP at h
  split at h
  · assumption
  · cases h

theorem outF_ok {n : Nod} {ins : List ByteArray} {A : At} {vs : List (Val × List Int)} {r : Int × List Int} (h : outF n ins A vs = .ok r) : OutOk n ins A vs r := by
  unfold outF valueP at h
  obtain ⟨_, h1, h⟩ := bind_ok h
  obtain ⟨_, h2, h⟩ := bind_ok h
  obtain ⟨_, h3, h⟩ := bind_ok h
  obtain ⟨t, h4, h⟩ := bind_ok h
  obtain ⟨d, h5, h⟩ := bind_ok h
  obtain ⟨_, h6, h⟩ := bind_ok h
  obtain ⟨_, h7, h⟩ := bind_ok h
  cases h
  exact ⟨stop_ok' h1, of_decide_eq_true (must_ok h2), h3, h4, h5, count_ok' h6, h7⟩

theorem OutOk.eq {n : Nod} {ins : List ByteArray} {A : At} {vs : List (Val × List Int)} {r : Int × List Int} (h : OutOk n ins A vs r) : outF n ins A vs = .ok r := by
  unfold outF valueP
  have e1 : stopP (checkF (ruleF n.op) n.op ins n.out A.xs A.cs) = .ok () := by rw [h.chk]; rfl
  have e2 : mustP (decide (vs.length = ins.length)) = .ok () := by rw [decide_eq_true h.len]; rfl
  have e3 : countP r.2 = .ok (prod r.2) := by unfold countP; rw [if_pos h.cnt]
  rw [e1, e2, h.vin, h.typ, h.dim]
  show (countP r.2).bind _ = _
  rw [e3]
  show (thenP r.1 _).bind _ = _
  rw [h.thn]
  rfl

theorem OutOk.typed {n : Nod} {ins : List ByteArray} {A : At} {vs : List (Val × List Int)} {r : Int × List Int} {w : World} {u : Sl} (h : OutOk n ins A vs r) (hn : NodeAll w n ins A) (hv : ValsIn w u.v vs) : isTypeP r.1 = true := by
  obtain ⟨q, hr, h1, h2, h3⟩ := checkF_zero h.chk
  have hall := vinP_all h.vin
  have ht : ∀ s ∈ tysOf vs, isTypeP s = true := by
    intro s hs
    obtain ⟨p, hp, rfl⟩ := List.mem_map.1 hs
    exact (hall p hp).1
  rw [← h.len] at h2 h3
  obtain ⟨a1, a2, a3, a4, a5⟩ := each_all q hr n ins A u vs w h1.symm hn hv ht (fun p hp => (hall p hp).2) h2 h3
  have hlen : (tysOf vs).length = vs.length := List.length_map ..
  exact typeG_ok h.typ (fun h0 => const_type hn.node h.chk (a3 h0)) ht (fun x y => by rw [hlen]; exact a4 x y) (fun x => by rw [hlen]; exact a5 x)
end Go.Proofs.YteigfipgmghgmaaGreatDoor
