/- A graph's parts, and whether there are too many, by the walk. -/
import Derived.Test.YtmdpeckeliplkaaDoorGLinksJ
namespace Go.Proofs.YtmdpeckeliplkaaDoor
open Go.RowKit

/-- Are there too many? -/
def manyF (nn vi vo it : Nat) : Bool := decide (1000 < nn) || decide (3000 < vi + it + nn) || decide (3000 < vo)

set_option maxRecDepth 100000 in
set_option maxHeartbeats 3200000 in
theorem toomany_any (g : Gra) (w : World) (h1 : g.nv.n ≤ 1048576) (h2 : g.iv.n ≤ 1048576) (h3 : g.ov.n ≤ 1048576) (h4 : g.tv.n ≤ 1048576) :
    Calls Tryd.prog 52 #[gval g] w fun e w' => e = .returned (.bool (manyF g.nv.n g.iv.n g.ov.n g.tv.n)) ∧ w.grownBy w' none := by
  obtain ⟨nam, ⟨na0, nn0, nc0⟩, ⟨ia, iN, ic⟩, ⟨oa, oN, oc⟩, ⟨ta, tN, tc⟩⟩ := g
  unfold gval
  simp only at h1 h2 h3 h4 ⊢
  obtain ⟨w0, hw0⟩ : ∃ w0, w0 = w.alloc (.cells #[.string nam, .slice na0 nn0 nc0, .slice ia iN ic, .slice oa oN oc, .slice ta tN tc] 26) := ⟨_, rfl⟩
  have g0 : w.grownBy w0 none := by rw [hw0]; exact grown_new _ _
  have b0 := heap_alloc_new w (.cells #[.string nam, .slice na0 nn0 nc0, .slice ia iN ic, .slice oa oN oc, .slice ta tN tc] 26)
  obtain ⟨r0, r1, r2, r3, r4⟩ := gra_cells (g := ⟨nam, ⟨na0, nn0, nc0⟩, ⟨ia, iN, ic⟩, ⟨oa, oN, oc⟩, ⟨ta, tN, tc⟩⟩) b0
  clear b0
  by_cases a1 : 1000 < nn0
  · have A : (1000 : Int) < (nn0 : Int) := by omega
    have E : Hid (manyF nn0 iN oN tN = true) := by show _ = _; unfold manyF; simp [a1]
    clear a1
    go_enter Tryd.func52, Tryd.ntmps52
    go_wp2
    rw [← hw0]
    go_ret
    exact ⟨by rw [E.out]; rfl, g0⟩
  · have A : ¬ (1000 : Int) < (nn0 : Int) := by omega
    by_cases a2 : 3000 < iN + tN + nn0
    · have A2 : (3000 : Int) < (iN : Int) + (tN : Int) + (nn0 : Int) := by omega
      have E : Hid (manyF nn0 iN oN tN = true) := by show _ = _; unfold manyF; simp [a2]
      clear a1 a2
      go_enter Tryd.func52, Tryd.ntmps52
      go_wp2
      rw [← hw0]
      go_ret
      exact ⟨by rw [E.out]; rfl, g0⟩
    · have A2 : ¬ (3000 : Int) < (iN : Int) + (tN : Int) + (nn0 : Int) := by omega
      have E : Hid (manyF nn0 iN oN tN = decide (3000 < (oN : Int))) := by
        show _ = _
        unfold manyF
        rw [decide_eq_false a1, decide_eq_false a2, Bool.false_or, Bool.false_or]
        exact decide_eq_decide.2 (by omega)
      clear a1 a2
      go_enter Tryd.func52, Tryd.ntmps52
      go_wp2
      rw [← hw0]
      go_ret
      exact ⟨by rw [E.out]; rfl, g0⟩
end Go.Proofs.YtmdpeckeliplkaaDoor
