/- WireWrites, by the walk. -/
import Derived.Test.YtoadpjegdhlphaaWRWrite
namespace Go.Proofs.Ytoadpjegdhlphaa
open Go.RowKit

set_option maxRecDepth 100000 in
set_option maxHeartbeats 1600000 in
theorem wwrites_walk (v : Value) (xs : List Fld) (w : World) (hv : IsFlds w v xs) (hin : ∀ x ∈ xs, FldIn x) :
    Calls Try.prog 5 #[v] w fun e w' => e = .returned (.bool true) ∧ Below w.heap.size w w' := by
  have HV := hide hv
  obtain ⟨va, vc, rfl, -, -, h3, -, -⟩ := hv
  have CW := hide (fun (u : Value) (wx : World) (hu : IsFlds wx u xs) => write_any u xs wx hu hin)
  have CR := hide (fun (u : Value) (wx : World) (hu : IsFlds wx u xs) => refwrite_any u xs wx hu hin)
  obtain ⟨⟨S, E⟩, hSE⟩ : ∃ t, t = wrote xs := ⟨_, rfl⟩
  rw [← hSE] at CW CR
  clear hSE hin
  go_enter Try.func5, Try.ntmps5
  go_wp2_with (at_builtin; refine wpList_appF rfl (.tmp 8) (.tmp 9) rfl w.heap.size _ [] rfl (OwnsL.nil _ _ _ _ _) _ xs rfl HV.out ?_ (Nat.le_refl _) ?_; (simp; omega); intro v1 w1 hown1 hg1; have g1 := own_row (OwnsL.nil 34 4 fcells w w.heap.size) (grown_refl w) (Nat.le_refl _) hg1; have HO1 := hide (hown1.flds (by simpa using h3)); clear hown1 hg1)
  rw [List.nil_append] at HO1
  refine (CW.out _ _ HO1.out).mono ?_
  rintro e w2 ⟨rfl, g2⟩
  go_wp2_with fail
  refine (CR.out _ _ (HV.out.more (grown_trans g1 g2))).mono ?_
  rintro e w3 ⟨rfl, g3⟩
  have SM := hide (same_any _ _ xs w3 (HO1.out.more (grown_trans g2 g3)) (HV.out.more (grown_trans g1 (grown_trans g2 g3))))
  go_wp2_with fail
  refine SM.out.mono ?_
  rintro e w4 ⟨rfl, g4⟩
  go_wp2_with fail
  refine (wlive_any _).mono ?_
  rintro e w5 ⟨rfl, g5⟩
  go_wp2
  go_ret
  exact ⟨rfl, grown_below (grown_trans g1 (grown_trans g2 (grown_trans g3 (grown_trans g4 g5))))⟩
end Go.Proofs.Ytoadpjegdhlphaa
