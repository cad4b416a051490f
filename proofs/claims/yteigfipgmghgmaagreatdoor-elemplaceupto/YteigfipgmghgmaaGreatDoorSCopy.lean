/- A list of its own, and a list that is spoilt, by the walk. -/
import Derived.Test.YteigfipgmghgmaaGreatDoorSSame
namespace Go.Proofs.YteigfipgmghgmaaGreatDoor
open Go.RowKit

theorem infoInt : (Tryz.prog.info? 3).map (fun i => (i.zero, i.size, i.bytes)) = some (some (.int .i64 0), 1, 8) := by kernel_rfl

theorem list_cells {w : World} {b off : Nat} {ys : List Int} (hc : ∀ t, t < ys.length → w.cell? ⟨b, off + t, none⟩ = some (.int .i64 (ys.getD t 0))) :
    ∀ j u, (ys.map (Value.int .i64))[j]? = some u → w.cell? ((⟨b, off, none⟩ : Addr).add j) = some u := by
  intro j u hu
  obtain ⟨hj, hv⟩ := List.getElem?_eq_some_iff.1 hu
  have hj' : j < ys.length := by simpa using hj
  rw [Addr.add_lit, hc j hj', ← hv]
  simp [List.getD, hj']

/-- append(s, x...): s of the call's own, x any list. -/
theorem wpList_app {w : World} {ops : Array Oper} {rest : List Oper} {o : Oper} {a : Act} {Q : Exit → Act → World → Prop} (hgd : o.guard = none) (s x : Operand)
    (ho : o.op = .call { callee := .builtin .append, args := #[s, x], argTypes := #[29, 29] })
    (base : Nat) (v : Value) (xs : List Int) (hs : a.eval s = v) (hown : Owns w base v xs) (xv : Value) (ys : List Int) (hx : a.eval x = xv) (hys : IsInts w xv ys)
    (hbytes : (xs.length + ys.length) * 8 ≤ 140737488351232) (hbase : base ≤ w.heap.size)
    (h : ∀ v' w', Owns w' base v' (xs ++ ys) → w.grownBy w' v.ownBlock → wpList Tryz.prog ops Q rest (a.put o.dst v') w') : wpList Tryz.prog ops Q (o :: rest) a w := by
  obtain ⟨i0, hi, hz0, hz1, hz2⟩ := info_parts infoInt
  obtain ⟨ao, cap, rfl, h1, h2, h3, h4, h5, h6⟩ := hys
  cases ao with
  | none =>
    obtain ⟨rfl, rfl⟩ := h4 rfl
    refine wpList_append_own_none hgd s x 29 ho base 3 i0 1 Tryz.underlying29 hi v _ _ hs hown.1 hx ?_
    exact h v w (by simpa using hown) (World.grownBy.refl _ _)
  | some ad =>
    refine wpList_append_own w hgd s x 29 ho base 3 i0 (.int .i64 0) 1 8 Tryz.underlying29 hi hz0 hz1 hz2 rfl (by decide) v _ _ hs hown.1 ad ys.length cap (ys.map (Value.int .i64)) hx (by simp) ?_ (ints_oneCell _ _) (by simp only [maxLen]; omega) (by omega) hbase ?_
    · by_cases hl : 0 < ys.length
      · obtain ⟨b, off, hao, hc⟩ := h5 hl
        obtain rfl := Option.some.inj hao
        exact list_cells hc
      · obtain rfl : ys = [] := List.length_eq_zero_iff.1 (by omega)
        intro j u hu
        simp at hu
    · intro v' w' ho' hg _
      refine h v' w' ⟨by simpa using ho', by simpa using hbytes, fun z hz => ?_⟩ hg
      rcases List.mem_append.1 hz with h | h
      · exact hown.2.2 z h
      · exact h6 z h

theorem owns_nil (w : World) (base : Nat) : Owns w base (.slice none 0 0) [] := ⟨World.ownsRow_nil _ _ _ _, by simp, fun z hz => by simp at hz⟩

theorem grown_trans_same {a b c : World} {row : Option Nat} (h : a.grownBy b row) (k : b.grownBy c row) : a.grownBy c row :=
  ⟨k.os.trans h.os, k.tape.trans h.tape, k.output.trans h.output, Nat.le_trans h.size k.size, fun i hi hn => (k.block i (Nat.lt_of_lt_of_le hi h.size) hn).trans (h.block i hi hn)⟩

end Go.Proofs.YteigfipgmghgmaaGreatDoor
