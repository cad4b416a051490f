/- append(s, x...) of numbers of 64 bits, by the walk. -/
import Derived.Test.YthphkgnigfmlaaaVLive
namespace Go.Proofs.Ythphkgnigfmlaaa
open Go.RowKit

/-- append(s, x...): s of the call's own, x any list. -/
theorem wpList_app64 {w : World} {ops : Array Oper} {rest : List Oper} {o : Oper} {a : Act} {Q : Exit → Act → World → Prop} (hgd : o.guard = none) (s x : Operand)
    (ho : o.op = .call { callee := .builtin .append, args := #[s, x], argTypes := #[38, 38] })
    (base : Nat) (v : Value) (xs : List Int) (hs : a.eval s = v) (hown : Owns64 w base v xs) (xv : Value) (ys : List Int) (hx : a.eval x = xv) (hys : IsInts w xv ys)
    (hbytes : (xs.length + ys.length) * 8 ≤ 140737488351232) (hbase : base ≤ w.heap.size)
    (h : ∀ v' w', Owns64 w' base v' (xs ++ ys) → w.grownBy w' v.ownBlock → wpList Try.prog ops Q rest (a.put o.dst v') w') : wpList Try.prog ops Q (o :: rest) a w := by
  obtain ⟨i0, hi, hz0, hz1, hz2⟩ := info_parts info64
  obtain ⟨ao, cap, rfl, h1, h2, h3, h4, h5, h6⟩ := hys
  cases ao with
  | none =>
    obtain ⟨rfl, rfl⟩ := h4 rfl
    refine wpList_append_own_none hgd s x 38 ho base 2 i0 1 Try.underlying38 hi v _ _ hs hown.1 hx ?_
    exact h v w (by simpa using hown) (World.grownBy.refl _ _)
  | some ad =>
    refine wpList_append_own w hgd s x 38 ho base 2 i0 (.int .i64 0) 1 8 Try.underlying38 hi hz0 hz1 hz2 rfl (by decide) v _ _ hs hown.1 ad ys.length cap (ys.map (Value.int .i64)) hx (by simp) ?_ (ints_oneCell _ _) (by simp only [maxLen]; omega) (by omega) hbase ?_
    · by_cases hl : 0 < ys.length
      · obtain ⟨b, off, hao, hc⟩ := h5 hl
        obtain rfl := Option.some.inj hao
        exact list_cells hc
      · obtain rfl : ys = [] := List.length_eq_zero_iff.1 (by omega)
        intro j u hu
        simp at hu
    · intro v' w' ho' hg _
      refine h v' w' ⟨by simpa using ho', by simpa using hbytes, fun z hz => ?_⟩ hg
      rcases List.mem_append.1 hz with h | h
      · exact hown.2.2 z h
      · exact h6 z h

end Go.Proofs.Ythphkgnigfmlaaa
