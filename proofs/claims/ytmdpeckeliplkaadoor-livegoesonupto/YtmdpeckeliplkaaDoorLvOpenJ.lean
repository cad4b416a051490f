/- Three nodes of a graph that come in. -/
import Derived.Test.YtmdpeckeliplkaaDoorLvOnWJ
import Derived.Test.YtmdpeckeliplkaaDoorGOpenJ
namespace Go.Proofs.YtmdpeckeliplkaaDoor
open Go.RowKit Go.ChangeShapes Go.WideShapes

theorem cellsThree : Tryd.prog.cellsOf 45 = 8 := by kernel_rfl
theorem cellsIntV : Tryd.prog.cellsOf 3 = 1 := by kernel_rfl

set_option maxRecDepth 100000 in
theorem three_in {H : Type} {enc : TypeId × Value → H} {W : World} {n : Nat} {cs : List Value} {x : DataW H × List MemPlace} (hf : DataW.trod enc Tryd.prog W 0 (fun _ => true) true n 45 cs = some x) (hb : Rows.uptoBulk x.1 ≤ 1048576) :
    ∃ (g : Gra) (ns : List Nc) (vin vout : List (Val × List Int)) (its : List (Nam × List Int × List Int)) (a b c : Int), cs = [.string g.name, .slice g.nv.a g.nv.n g.nv.c, .slice g.iv.a g.iv.n g.iv.c, .slice g.ov.a g.ov.n g.ov.c, .slice g.tv.a g.tv.n g.tv.c, .int .i64 a, .int .i64 b, .int .i64 c] ∧ GraphOk W g ns vin vout its := by
  obtain ⟨xs, n', -, hx, hl, hlen, hfs⟩ := DataW.trod_struct Tryd.underlying45 hf
  rw [cellsThree] at hl
  match cs, hl with
  | [c0, c1, c2, c3, c4, c5, c6, c7], _ =>
    match xs, hlen with
    | [y0, y1, y2, y3], _ =>
      have h0 := hfs 0 _ rfl
      have h1 := hfs 1 _ rfl
      have h2 := hfs 2 _ rfl
      have h3 := hfs 3 _ rfl
      simp [cellsGra] at h0
      simp [cellsIntV] at h1 h2 h3
      rw [hx] at hb
      simp only [List.map_cons, List.map_nil, Rows.uptoBulk, Rows.uptoBulkAll] at hb
      obtain ⟨g, ns, vin, vout, its, e0, ok⟩ := graph_in h0 (by omega)
      obtain ⟨a, e1, -, -⟩ := DataW.trod_int Tryd.underlying3 h1
      obtain ⟨b, e2, -, -⟩ := DataW.trod_int Tryd.underlying3 h2
      obtain ⟨c, e3, -, -⟩ := DataW.trod_int Tryd.underlying3 h3
      simp only [List.cons.injEq, and_true] at e0 e1 e2 e3
      obtain ⟨rfl, rfl, rfl, rfl, rfl⟩ := e0
      subst e1 e2 e3
      exact ⟨g, ns, vin, vout, its, a, b, c, rfl, ok⟩
end Go.Proofs.YtmdpeckeliplkaaDoor
