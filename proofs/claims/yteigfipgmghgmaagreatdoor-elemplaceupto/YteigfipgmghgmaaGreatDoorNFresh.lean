/- A list copied to one of the call's own by append, and a tensor of its own, by the walk. -/
import Derived.Test.YteigfipgmghgmaaGreatDoorNPb
import Derived.Test.YteigfipgmghgmaaGreatDoorNIdx
import Derived.Test.YteigfipgmghgmaaGreatDoorSFrame
namespace Go.Proofs.YteigfipgmghgmaaGreatDoor
open Go.RowKit

/-- One whole number, as a list's cells. -/
def icell (z : Int) : List Value := [.int .i64 z]

theorem icell_len (z : Int) : (icell z).length = 1 := rfl

theorem icells (zs : List Int) : zs.flatMap icell = zs.map (Value.int .i64) := by
  induction zs with
  | nil => rfl
  | cons z l ih => rw [List.flatMap_cons, ih]; rfl

/-- A value's block is a new one: it was made behind n, and ahead of m. -/
def New (n m : Nat) (v : Value) : Prop := ∀ k, v.ownBlock = some k → n ≤ k ∧ k < m

theorem New.mono {n m n' m' : Nat} {v : Value} (h : New n m v) (hn : n' ≤ n) (hm : m ≤ m') : New n' m' v := fun k hk => by have := h k hk; omega

theorem IsInts.past {w w' : World} {v : Value} {zs : List Int} (h : IsInts w v zs) {B n m : Nat} (hn : New n m v) (hB : B < n ∨ m ≤ B) (hg : w.grownBy w' (some B)) : IsInts w' v zs :=
  h.kept fun b hb hv => hg.block b hb (fun e => by have := hn b hv; cases e; omega)

theorem isL_ints {w : World} {v : Value} {zs : List Int} (h : IsInts w v zs) : IsL 8 1 icell w v zs := by
  obtain ⟨ao, cap, rfl, h1, h2, h3, h4, h5, h6⟩ := h
  refine ⟨ao, cap, rfl, h1, h2, h3, h4, fun hl => ?_⟩
  obtain ⟨b, off, rfl, hc⟩ := h5 hl
  refine ⟨b, off, rfl, fun k hk j hj => ?_⟩
  obtain rfl : j = 0 := by omega
  rw [Nat.mul_one, Nat.add_zero, hc k hk]
  exact ⟨by simp [icell, List.getD, hk], by simp [icell]⟩

theorem ints_isL {w : World} {v : Value} {zs : List Int} (h : IsL 8 1 icell w v zs) (hwf : ∀ z ∈ zs, -9223372036854775808 ≤ z ∧ z ≤ 9223372036854775807) : IsInts w v zs := by
  obtain ⟨ao, cap, rfl, h1, h2, h3, h4, h5⟩ := h
  refine ⟨ao, cap, rfl, h1, h2, h3, h4, fun hl => ?_, hwf⟩
  obtain ⟨b, off, rfl, hc⟩ := h5 hl
  refine ⟨b, off, rfl, fun k hk => ?_⟩
  obtain ⟨e, -⟩ := hc k hk 0 (by omega)
  rw [Nat.mul_one, Nat.add_zero] at e
  rw [e]
  simp [icell, List.getD, hk]

theorem infoI64 : (Tryz.prog.info? 2).map (fun i => (i.zero, i.size, i.bytes)) = some (some (.int .i64 0), 1, 8) := by kernel_rfl

theorem infoInt : (Tryz.prog.info? 3).map (fun i => (i.zero, i.size, i.bytes)) = some (some (.int .i64 0), 1, 8) := by kernel_rfl

/-- append(nil, x...), as one operation. -/
theorem wp_fresh {α : Type} {o : Oper} {a : Act} {w : World} {K : Act → World → Prop} {Q : Exit → Act → World → Prop} (s x : Operand) (t te : TypeId) (size bytes : Nat) (z : Value) (i0 : TypeInfo) (f : α → List Value)
    (ho : o.op = .call { callee := .builtin .append, args := #[s, x], argTypes := #[t, t] }) (ht : Tryz.prog.underlying t = some (.slice te)) (hi : Tryz.prog.info? te = some i0) (hz : i0.zero = some z)
    (hsize : i0.size = size) (hby : i0.bytes = bytes) (hzs : z.cells.size = size) (hsz : 0 < size) (hs : a.eval s = .slice none 0 0)
    (xv : Value) (ys : List α) (hx : a.eval x = xv) (hys : IsL bytes size f w xv ys) (hl : ∀ y, (f y).length = size) (h1 : ∀ y, ∀ u ∈ f y, u.oneCell' = true)
    (h : ∀ v' w', OwnsL te size f w' w.heap.size v' ys → w.grownBy w' none → K (a.put o.dst v') w') : o.wp Tryz.prog a w K Q := by
  obtain ⟨ao, cap, rfl, k1, k2, k3, k4, k5⟩ := hys
  cases ao with
  | none =>
    obtain ⟨rfl, rfl⟩ := k4 rfl
    have hrun := run_append_owned_none (P := Tryz.prog) (w := w) w.heap.size t o.type te i0 size ht hi (.slice none 0 0) 0 [] (World.ownsRow_nil _ _ _ _)
    unfold Oper.wp
    simp [execOp, ho, resolve, invoke, builtin, hs, hx, hrun, Result.andThen]
    exact h _ _ (OwnsL.nil ..) (grown_refl _)
  | some ad =>
    refine wp_append_own w s x t ho w.heap.size te i0 z size bytes ht hi hz hsize hby hzs hsz (.slice none 0 0) 0 [] hs (World.ownsRow_nil _ _ _ _) ad ys.length cap (ys.flatMap f) hx (flat_len hl ys) ?_ ?_ (by simp only [maxLen]; omega) (by rw [Nat.zero_add]; omega) (Nat.le_refl _) ?_
    · intro j u hu
      by_cases hy : 0 < ys.length
      · obtain ⟨b, off, hao, hc⟩ := k5 hy
        obtain rfl := Option.some.inj hao
        have hj : j < ys.length * size := by
          have := (List.getElem?_eq_some_iff.1 hu).1
          rwa [flat_len hl] at this
        have hjs : j % size < size := Nat.mod_lt _ hsz
        have hjd : j / size < ys.length := (Nat.div_lt_iff_lt_mul hsz).2 hj
        have e1 : j = j / size * size + j % size := by rw [Nat.mul_comm]; exact (Nat.div_add_mod j size).symm
        rw [e1, flat_at hl ys _ _ hjd hjs] at hu
        rw [Addr.add_lit]
        have := (hc (j / size) hjd (j % size) hjs).1
        rw [Nat.add_assoc, ← e1] at this
        rw [this, hu]
      · obtain rfl : ys = [] := List.length_eq_zero_iff.1 (by omega)
        simp at hu
    · intro u hu
      obtain ⟨y, -, hy⟩ := List.mem_flatMap.1 hu
      exact h1 y u hy
    · intro v' w' ho' hg _
      refine h v' w' ?_ hg
      unfold OwnsL
      simpa using ho'

theorem wpl_fresh {α : Type} {ops : Array Oper} {rest : List Oper} {o : Oper} {a : Act} {w : World} {Q : Exit → Act → World → Prop} (hgd : o.guard = none) (s x : Operand) (t te : TypeId) (size bytes : Nat) (z : Value) (i0 : TypeInfo) (f : α → List Value)
    (ho : o.op = .call { callee := .builtin .append, args := #[s, x], argTypes := #[t, t] }) (ht : Tryz.prog.underlying t = some (.slice te)) (hi : Tryz.prog.info? te = some i0) (hz : i0.zero = some z)
    (hsize : i0.size = size) (hby : i0.bytes = bytes) (hzs : z.cells.size = size) (hsz : 0 < size) (hs : a.eval s = .slice none 0 0)
    (xv : Value) (ys : List α) (hx : a.eval x = xv) (hys : IsL bytes size f w xv ys) (hl : ∀ y, (f y).length = size) (h1 : ∀ y, ∀ u ∈ f y, u.oneCell' = true)
    (h : ∀ v' w', OwnsL te size f w' w.heap.size v' ys → w.grownBy w' none → wpList Tryz.prog ops Q rest (a.put o.dst v') w') : wpList Tryz.prog ops Q (o :: rest) a w :=
  wpList_plain hgd fun _ hK => wp_fresh s x t te size bytes z i0 f ho ht hi hz hsize hby hzs hsz hs xv ys hx hys hl h1 fun v' w' h2 h3 => hK _ _ (h v' w' h2 h3)

theorem step_fresh {α : Type} {ops : Array Oper} {o : Oper} {a : Act} {w : World} {K : Act → World → Prop} {Q : Exit → Act → World → Prop} {E : Prop} (hgd : o.guard = none) (s x : Operand) (t te : TypeId) (size bytes : Nat) (z : Value) (i0 : TypeInfo) (f : α → List Value)
    (ho : o.op = .call { callee := .builtin .append, args := #[s, x], argTypes := #[t, t] }) (ht : Tryz.prog.underlying t = some (.slice te)) (hi : Tryz.prog.info? te = some i0) (hz : i0.zero = some z)
    (hsize : i0.size = size) (hby : i0.bytes = bytes) (hzs : z.cells.size = size) (hsz : 0 < size) (hs : a.eval s = .slice none 0 0)
    (xv : Value) (ys : List α) (hx : a.eval x = xv) (hys : IsL bytes size f w xv ys) (hl : ∀ y, (f y).length = size) (h1 : ∀ y, ∀ u ∈ f y, u.oneCell' = true)
    (h : ∀ v' w', OwnsL te size f w' w.heap.size v' ys → w.grownBy w' none → K (a.put o.dst v') w') : if Region.wanted o (yielded ops a.tmps) = true then Oper.wp Tryz.prog o a w K Q else E := by
  have hw : Region.wanted o (yielded ops a.tmps) = true := by simp [Region.wanted, hgd]
  rw [if_pos hw]
  exact wp_fresh s x t te size bytes z i0 f ho ht hi hz hsize hby hzs hsz hs xv ys hx hys hl h1 h

theorem icell_one (y : Int) : ∀ u ∈ icell y, u.oneCell' = true := by intro u hu; rw [icell, List.mem_singleton] at hu; subst hu; rfl

theorem ints_owns {te : TypeId} {w : World} {base : Nat} {v : Value} {zs : List Int} (h : OwnsL te 1 icell w base v zs) (hl : zs.length * 8 ≤ 140737488351232) (hwf : ∀ z ∈ zs, -9223372036854775808 ≤ z ∧ z ≤ 9223372036854775807) : IsInts w v zs := ints_isL (h.isL (bytes := 8) icell_len hl) hwf

theorem owns_new {α : Type} {te : TypeId} {size : Nat} {f : α → List Value} {w : World} {base : Nat} {v : Value} {xs : List α} (h : OwnsL te size f w base v xs) : New base w.heap.size v := fun k hk => World.ownsRow.lt h k hk

end Go.Proofs.YteigfipgmghgmaaGreatDoor
