/- One element of a list of the call's own, written anew. -/
import Derived.Test.YtdcbjikjeicgbaaGreatDoorGLstJ
namespace Go.Proofs.YtdcbjikjeicgbaaGreatDoor
open Go.RowKit

theorem flat_set {α : Type} {size : Nat} {f : α → List Value} (hl : ∀ a, (f a).length = size) {j : Nat} (hj : j < size) {a' : α} {u : Value} : ∀ {xs : List α} {k : Nat} {a : α}, xs[k]? = some a → f a' = (f a).set j u → (xs.flatMap f).set (k * size + j) u = (xs.set k a').flatMap f
  | [], k, a, hk, _ => by simp at hk
  | x :: l, 0, a, hk, hf => by
    obtain rfl : x = a := by simpa using hk
    rw [List.set_cons_zero, List.flatMap_cons, List.flatMap_cons, Nat.zero_mul, Nat.zero_add, List.set_append_left _ _ (by rw [hl]; exact hj), hf]
  | x :: l, k + 1, a, hk, hf => by
    have hk' : l[k]? = some a := by simpa using hk
    rw [List.set_cons_succ, List.flatMap_cons, List.flatMap_cons, List.set_append_right _ _ (by rw [hl, Nat.add_mul]; omega), hl, show (k + 1) * size + j - size = k * size + j by rw [Nat.add_mul]; omega, flat_set hl hj hk' hf]

theorem owns_set {α : Type} {te : TypeId} {size : Nat} {f : α → List Value} {w : World} {base b n cap : Nat} {xs : List α} (h : OwnsL te size f w base (.slice (some ⟨b, 0, none⟩) n cap) xs) (hl : ∀ a, (f a).length = size) {k j : Nat} {a a' : α} {u : Value} (hk : xs[k]? = some a) (hj : j < size) (hf : f a' = (f a).set j u) :
    OwnsL te size f (w.setCell ⟨b, k * size + j, none⟩ u) base (.slice (some ⟨b, 0, none⟩) n cap) (xs.set k a') ∧ w.grownBy (w.setCell ⟨b, k * size + j, none⟩ u) (some b) := by
  obtain ⟨pa, pc, e⟩ := OwnsL.form h
  have hn : n = xs.length := by simp only [Value.slice.injEq] at e; exact e.2.1
  subst hn
  have s := World.ownsRow.stored h (k * size + j) u
  refine ⟨?_, s.2⟩
  unfold OwnsL
  rw [List.length_set, ← flat_set hl hj hk hf]
  exact s.1

theorem owns_cell {α : Type} {te : TypeId} {size : Nat} {f : α → List Value} {w : World} {base b n cap : Nat} {xs : List α} (h : OwnsL te size f w base (.slice (some ⟨b, 0, none⟩) n cap) xs) (k : Nat) : w.frozen? ⟨b, k, none⟩ = false := by
  obtain ⟨pa, pc, e⟩ := OwnsL.form h
  have hn : n = xs.length := by simp only [Value.slice.injEq] at e; exact e.2.1
  subst hn
  exact World.ownsRow.frozenAt h k

theorem OwnD.upd {α β : Type} {te : TypeId} {size : Nat} {f : α → List Value} {H : World → α → β → Prop} {foot : α → β → Nat → Prop} {w : World} {lo hi b n cap : Nat} {ps : List (α × β)} (HK : Feet H foot) (h : OwnD te size f H foot w lo hi (.slice (some ⟨b, 0, none⟩) n cap) ps) (hl : ∀ a, (f a).length = size) {k j : Nat} {a a' : α} {c : β} {u : Value} (hk : ps[k]? = some (a, c)) (hj : j < size) (hf : f a' = (f a).set j u) (hft : ∀ b, foot a' c b → foot a c b) (hH : ∀ w, H w a c → H w a' c) :
    OwnD te size f H foot (w.setCell ⟨b, k * size + j, none⟩ u) lo hi (.slice (some ⟨b, 0, none⟩) n cap) (ps.set k (a', c)) ∧ w.grownBy (w.setCell ⟨b, k * size + j, none⟩ u) (some b) := by
  have hk1 : (ps.map (·.1))[k]? = some a := by rw [List.getElem?_map, hk]; rfl
  obtain ⟨s1, s2⟩ := owns_set h.own hl hk1 hj hf
  have hob : (Value.slice (some ⟨b, 0, none⟩) n cap).ownBlock = some b := rfl
  have hmem : ∀ p ∈ ps.set k (a', c), p ∈ ps ∨ p = (a', c) := fun p hp => List.mem_or_eq_of_mem_set hp
  have hac : (a, c) ∈ ps := List.mem_of_getElem? hk
  have kp : ∀ p ∈ ps, H (w.setCell ⟨b, k * size + j, none⟩ u) p.1 p.2 := fun p hp => HK _ _ _ _ (h.has p hp) fun b' hb e => s2.block b' hb (fun e2 => (h.new p hp b' e).2.2 (by rw [hob]; exact e2.symm))
  refine ⟨⟨by rw [List.map_set]; exact s1, h.row, fun p hp => ?_, fun p hp b' e => ?_, by have := s2.size; have := h.le; omega⟩, s2⟩
  · rcases hmem p hp with hp | rfl
    · exact kp p hp
    · exact hH _ (kp (a, c) hac)
  · rcases hmem p hp with hp | rfl
    · exact h.new p hp b' e
    · exact h.new (a, c) hac b' (hft b' e)
end Go.Proofs.YtdcbjikjeicgbaaGreatDoor
