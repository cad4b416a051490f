/- The struct Cut, opened. -/
import Derived.Test.YthphkgnigfmlaaaVFrame
namespace Go.Proofs.Ythphkgnigfmlaaa
open Go.RowKit Go.ChangeShapes Go.WideShapes Go.ChangeAt

theorem cellsCut : Try.prog.cellsOf 35 = 3 := by kernel_rfl

theorem cut_of {H : Type} {enc : TypeId × Value → H} {W : World} {r : Reach} {b0 : Nat} {v : Value} {d : DataW H} {p : List MemPlace}
    (hok : Value.okWide Try.prog W r b0 35 v) (h : DataW.Trod enc Try.prog W 0 (fun _ => true) true 35 v d p) :
    ∃ x y z : Int, v = .agg #[.int .i64 x, .int .i64 y, .int .i64 z] ∧ p = [] ∧ (-9223372036854775808 ≤ x ∧ x ≤ 9223372036854775807) ∧ (-9223372036854775808 ≤ y ∧ y ≤ 9223372036854775807) ∧ (-9223372036854775808 ≤ z ∧ z ≤ 9223372036854775807) := by
  obtain ⟨cs, rfl, hcs⟩ := okWide_struct Try.underlying35 hok
  rw [cellsCut] at hcs
  obtain ⟨l⟩ := cs
  obtain ⟨fuel, hf⟩ := h
  match l, hcs with
  | [c0, c1, c2], _ =>
    obtain ⟨y0, y1, y2, n, hx, -, h0, h1, h2⟩ := Go.Deep.trod_struct3 Try.underlying35 hf
    simp only [Prod.mk.injEq] at hx
    simp [Value.cells, cellsInt] at h0 h1 h2
    obtain ⟨x, e0, p0, w0⟩ := DataW.trod_int Try.underlying3 h0
    obtain ⟨y, e1, p1, w1⟩ := DataW.trod_int Try.underlying3 h1
    obtain ⟨z, e2, p2, w2⟩ := DataW.trod_int Try.underlying3 h2
    simp at e0 e1 e2
    refine ⟨x, y, z, by rw [e0, e1, e2], ?_, wf_bounds w0, wf_bounds w1, wf_bounds w2⟩
    rw [hx.2, p0, p1, p2]
    rfl
end Go.Proofs.Ythphkgnigfmlaaa
