/- Joined texts: EAs, LnTurn, LnDo, LnMade. -/
import Derived.Test.YtaoplfpigjkgpaaGreatDoorPartBG
import Derived.Test.YtaoplfpigjkgpaaGreatDoorPartBI
import Derived.Test.YtaoplfpigjkgpaaGreatDoorPartAB
import Derived.Test.YtaoplfpigjkgpaaGreatDoorPartBJ
import Derived.RangeFuncBox
import Derived.Maps.AppendAt
import Derived.Test.YtaoplfpigjkgpaaGreatDoorPartBH
import Derived.Deep.RegionWith
namespace Go.Proofs.YtaoplfpigjkgpaaGreatDoor

open Go.RowKit

theorem ownsRow_base {w : World} {base base' te sz n : Nat} {v : Value} {cs : List Value} (h : w.ownsRow base te sz v n cs) (hb : base' ≤ base) : w.ownsRow base' te sz v n cs := by
  obtain ⟨h1, h2 | ⟨g, cap, cur, e1, e2, e3⟩⟩ := h
  · exact ⟨h1, .inl h2⟩
  · exact ⟨h1, .inr ⟨g, cap, cur, e1, Nat.le_trans hb e2, e3⟩⟩

end Go.Proofs.YtaoplfpigjkgpaaGreatDoor

namespace Go.Proofs.YtaoplfpigjkgpaaGreatDoor

open Go.RowKit

theorem owns_put {w : World} {base g n c : Nat} {zs : List Int} (h : Owns w base (.slice (some ⟨g, 0, none⟩) n c) zs) (hn : zs.length = n) {k : Nat} (hk : k < n) (z : Int) (hz : -9223372036854775808 ≤ z ∧ z ≤ 9223372036854775807) :
    w.cell? ⟨g, k, none⟩ = some (.int .i64 (zs.getD k 0)) ∧ w.frozen? ⟨g, k, none⟩ = false ∧ Owns (w.setCell ⟨g, k, none⟩ (.int .i64 z)) base (.slice (some ⟨g, 0, none⟩) n c) (zs.set k z) ∧ w.grownBy (w.setCell ⟨g, k, none⟩ (.int .i64 z)) (some g) := by
  subst hn
  have hr := h.1
  obtain ⟨s1, s2⟩ := hr.stored k (.int .i64 z)
  refine ⟨?_, hr.frozenAt k, ⟨?_, by rw [List.length_set]; exact h.2.1, fun y hy => ?_⟩, s2⟩
  · rw [hr.cellAt k (by omega)]
    simp [List.getD, hk]
  · rw [List.length_set, List.map_set]
    exact s1
  · rcases List.mem_or_eq_of_mem_set hy with hy | rfl
    · exact h.2.2 y hy
    · exact hz

end Go.Proofs.YtaoplfpigjkgpaaGreatDoor

namespace Go.Proofs.YtaoplfpigjkgpaaGreatDoor

open Go.RowKit

def doR (r : R (Int × List Int)) (M : List Int → R (List Int)) : R (Int × List Int × List Int) := match r with
  | .ok (ty, l) => (M l).map fun zs => (ty, l, zs)
  | .error c => .error c

def DoQ (w : World) (r : R (Int × List Int × List Int)) (e : Ending) (w' : World) : Prop := w.grownBy w' none ∧ match r with
  | .ok (ty, l, zs) => ∃ t : Ten, t.ty = ty ∧ e = .returned (.tuple #[tval t, .int .i64 0]) ∧ Owns w' w.heap.size t.dv.v l ∧ OwnsE w' w.heap.size t.tv.v zs
  | .error c => e = .returned (.tuple #[.agg #[.int .i64 0, .slice none 0 0, .slice none 0 0], .int .i64 c])

theorem do_err {w w' : World} {r : R (Int × List Int × List Int)} {c : Int} (h : r = .error c) (hg : w.grownBy w' none) : DoQ w r (.returned (.tuple #[.agg #[.int .i64 0, .slice none 0 0, .slice none 0 0], .int .i64 c])) w' := by rw [h]; exact ⟨hg, rfl⟩

theorem do_ok {w w' : World} {r : R (Int × List Int × List Int)} {ty : Int} {l zs : List Int} {d t : Sl} (h : r = .ok (ty, l, zs)) (hg : w.grownBy w' none) (hd : Owns w' w.heap.size d.v l) (ht : OwnsE w' w.heap.size t.v zs) : DoQ w r (.returned (.tuple #[.agg #[.int .i64 ty, .slice d.a d.n d.c, .slice t.a t.n t.c], .int .i64 0])) w' := by rw [h]; exact ⟨hg, ⟨ty, d, t⟩, rfl, rfl, hd, ht⟩

theorem ret_ten2 {fn : Func} {p u : Tmp} (h : fn.results = #[.cell p 32, .tmp u]) (tmps : Array Value) (w : World) (B : Nat) (hp : tmps.getD p undef = .pointer (some ⟨B, 0, none⟩)) {a0 a1 a2 : Value}
    (hb : w.heap[B]? = some (.cells #[a0, a1, a2] 32 (0, 0))) : (results fn tmps).run Tryz.prog w = .ok (.tuple #[.agg #[a0, a1, a2], tmps.getD u undef]) w := by
  have hl := run_loadVar_row (P := Tryz.prog) w B _ 32 #[a0, a1, a2] (0, 0) _ hb Tryz.underlying32 rfl (by rw [tenInfo]; rfl)
  rw [results_cell_tmp h, hp]
  simp [asAddr, hl, Result.andThen]

theorem row_lt {w : World} {base te sz n : Nat} {v : Value} {cs : List Value} (h : w.ownsRow base te sz v n cs) {B : Nat} (hB : B < base) : v.ownBlock = none ∨ v.ownBlock ≠ some B := by
  rcases h.2 with ⟨e, -⟩ | ⟨g, cap, cur, e, hg, -⟩
  · exact .inl (by rw [e]; rfl)
  · exact .inr (by rw [e]; simp [Value.ownBlock]; omega)

end Go.Proofs.YtaoplfpigjkgpaaGreatDoor

namespace Go.Proofs.YtaoplfpigjkgpaaGreatDoor

open Go.RowKit

structure ShpM (x y : List Int) (A : List Int) (a k b : Nat) : Prop where
  ex : x = A ++ [(a : Int), (k : Int)]
  ey : y = A ++ [(k : Int), (b : Int)]
  few : A.length ≤ 1
  cx : cntE x = 0
  cy : cntE y = 0
  cz : cntE (A ++ [(a : Int), (b : Int)]) = 0

theorem ShpM.len {x y A : List Int} {a k b : Nat} (h : ShpM x y A a k b) : x.length = A.length + 2 ∧ y.length = A.length + 2 := by
  rw [h.ex, h.ey]
  simp

end Go.Proofs.YtaoplfpigjkgpaaGreatDoor
