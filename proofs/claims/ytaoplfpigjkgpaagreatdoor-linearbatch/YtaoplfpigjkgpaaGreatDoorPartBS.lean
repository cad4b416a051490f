/- Joined texts: FrKit. -/
import Derived.Test.YtaoplfpigjkgpaaGreatDoorPartAB
import Derived.Deep.RegionHeld3
namespace Go.Proofs.YtaoplfpigjkgpaaGreatDoor

open Go.RowKit

def frU (g : Nat → Value) (d : Nat) (v : Value) (j : Nat) : Value := if j = d then v else g j

structure Fr (b : Act) (N : Nat) (g : Nat → Value) : Prop where
  size : b.tmps.size = N
  defers : b.defers = []
  get : ∀ j, b.tmps.getD j undef = g j

theorem Fr.self (b : Act) (N : Nat) (hs : b.tmps.size = N) (hd : b.defers = []) : Fr b N (fun j => b.tmps.getD j undef) := ⟨hs, hd, fun _ => rfl⟩

theorem Fr.put {b : Act} {N : Nat} {g : Nat → Value} (F : Fr b N g) {d : Nat} (hd : d < N) (v : Value) : Fr (b.put (some d) v) N (frU g d v) := by
  refine ⟨by simp [Act.put, F.size], F.defers, fun j => ?_⟩
  simp only [Act.put, Array.getD_eq_getD_getElem?, frU]
  by_cases h : j = d
  · subst h
    rw [if_pos rfl, Array.getElem?_setIfInBounds_self_of_lt (by rw [F.size]; exact hd)]
    rfl
  · rw [if_neg h, Array.getElem?_setIfInBounds_ne (fun e => h e.symm), ← Array.getD_eq_getD_getElem?]
    exact F.get j

theorem put_defers (a : Act) (d : Option Tmp) (v : Value) : (a.put d v).defers = a.defers := by cases d <;> rfl

theorem Fr.none {b : Act} {N : Nat} {g : Nat → Value} (F : Fr b N g) (v : Value) : Fr (b.put none v) N g := F

theorem Fr.eval {b : Act} {N : Nat} {g : Nat → Value} (F : Fr b N g) (j : Nat) : b.eval (.tmp j) = g j := F.get j

theorem Fr.wanted {b : Act} {N : Nat} {g : Nat → Value} (F : Fr b N g) {o : Oper} {ops : Array Oper} {j d : Nat} {t : Bool} (hg : o.guard = some (j, t)) (hd : (ops[j]?).bind (·.dst) = some d) (hN : d < N) (h : g d = .bool t) : Region.wanted o (yielded ops b.tmps) = true := by
  unfold Region.wanted yielded
  rw [hg]
  simp only
  rw [hd]
  simp only [Option.bind_some]
  have hs : d < b.tmps.size := by rw [F.size]; exact hN
  have e := F.get d
  rw [Array.getD_eq_getD_getElem?, Array.getElem?_eq_getElem hs, Option.getD_some, h] at e
  rw [Array.getElem?_eq_getElem hs, e]
  simp

theorem panic_same {P : Program} {fn : Func} {R : Ending → World → Prop} {K : Act → World → Prop} {c : List PanicEntry} {a a' : Act} {w : World} (hd : a.defers = a'.defers) (h : Exit.then K (bodyPost P fn R) (.panic c) a w) : Exit.then K (bodyPost P fn R) (.panic c) a' w := ⟨hd ▸ h.1, h.2⟩

section

variable {P : Program} {ops : Array Oper} {Q : Exit → Act → World → Prop} {S : World → Prop} {fuel : Nat} {listed : Array Bool} {b : Act} {w : World} {N : Nat} {g : Nat → Value}

theorem tk (k : Nat) {o : Oper} {d : Nat} (v : Value) (hi : ops[k]? = some o) (hd : o.dst = some d) (c1 : Region.noSelect ops = true) (c2 : Region.free .any ops listed k = true) (c3 : (Region.ready .any ops listed).contains k = true)
    (hQ : ∀ c a a' w, a.defers = a'.defers → Q (.panic c) a w → Q (.panic c) a' w) (F : Fr b N g) (hN : d < N) (hw : Region.wanted o (yielded ops b.tmps) = true) (hy : ∀ f, (∀ j, f (.tmp j) = g j) → (∀ u, f (.const u) = u) → ∀ wS, S wS → (execOp f o).run P wS = .ok (.value v) wS) (hS : S w)
    (h : ∀ b', Fr b' N (frU g d v) → wpAnyH P .any ops Q S fuel (listed.setIfInBounds k true) b' w) : wpAnyH P .any ops Q S (fuel + 1) listed b w :=
  wpAnyH_take hi c1 c2 c3 (fun _ _ _ hq => hQ _ _ _ _ (put_defers _ _ _) hq) (Or.inl ⟨hw, fun wS hs => hy b.eval F.eval (fun _ => rfl) wS hs⟩) hS (by rw [hd]; exact h _ (F.put hN v))

theorem ry {k : Nat} {o : Oper} {d : Nat} {v : Value} {w' : World} {K : Act → World → Prop} (hd : o.dst = some d) (F : Fr b N g) (hN : d < N) (hw : Region.wanted o (yielded ops b.tmps) = true) (hy : ∀ f, (∀ j, f (.tmp j) = g j) → (∀ u, f (.const u) = u) → (execOp f o).run P w = .ok (.value v) w')
    (hK : Shut (∀ a w, S w → (S w → wpAnyH P .any ops Q S fuel (listed.setIfInBounds k true) a w) → K a w)) (hS : S w') (h : ∀ b', Fr b' N (frU g d v) → wpAnyH P .any ops Q S fuel (listed.setIfInBounds k true) b' w') : if Region.wanted o (yielded ops b.tmps) = true then Oper.wp P o b w K Q else K (b.put o.dst undef) w := by
  rw [if_pos hw]
  unfold Oper.wp
  rw [hy b.eval F.eval (fun _ => rfl), Oper.upon_value, hd]
  exact hK _ _ hS (fun _ => h _ (F.put hN v))

theorem ry0 {k : Nat} {o : Oper} {w' : World} {K : Act → World → Prop} (hd : o.dst = none) (F : Fr b N g) (hw : Region.wanted o (yielded ops b.tmps) = true) (hy : ∀ f, (∀ j, f (.tmp j) = g j) → (∀ u, f (.const u) = u) → (execOp f o).run P w = .ok .skip w')
    (hK : Shut (∀ a w, S w → (S w → wpAnyH P .any ops Q S fuel (listed.setIfInBounds k true) a w) → K a w)) (hS : S w') (h : ∀ b', Fr b' N g → wpAnyH P .any ops Q S fuel (listed.setIfInBounds k true) b' w') : if Region.wanted o (yielded ops b.tmps) = true then Oper.wp P o b w K Q else K (b.put o.dst undef) w := by
  rw [if_pos hw]
  unfold Oper.wp
  rw [hy b.eval F.eval (fun _ => rfl), Oper.upon_skip, hd]
  exact hK _ _ hS (fun _ => h _ (F.none undef))

end

end Go.Proofs.YtaoplfpigjkgpaaGreatDoor
