/- WireBack, by the walk. -/
import Derived.Test.YtoadpjegdhlphaaWWrite
import Derived.Test.YtoadpjegdhlphaaWBack
namespace Go.Proofs.Ytoadpjegdhlphaa
open Go.RowKit

/-- What Write answers: an error and no bytes; or the bytes of all fields. -/
theorem wrote_cases (xs : List Fld) : ((wrote xs).2 ≠ 0 ∧ (wrote xs).1 = ⟨#[]⟩) ∨ ((∀ x ∈ xs, fok x = true) ∧ (outOf xs).length ≤ 16777216 ∧ wrote xs = (sof (outOf xs), 0)) := by
  unfold wrote
  split
  · rename_i h1
    split
    · rename_i h2
      exact .inr ⟨fun x hx => List.all_eq_true.1 h1 x hx, h2, rfl⟩
    · exact .inl ⟨by simp, rfl⟩
  · exact .inl ⟨by simp, rfl⟩

theorem back_all {xs : List Fld} (h : ∀ x ∈ xs, fok x = true) (hin : ∀ x ∈ xs, FldIn x) (hl : (outOf xs).length ≤ 16777216) : all (fd (sof (outOf xs))) (sof (outOf xs)).size = some xs :=
  all_out xs (fun x hx => ⟨h x hx, hin x hx, size_in h hl x hx⟩)

/-- So many fields as half of the bytes. -/
theorem out_len (xs : List Fld) : xs.length * 2 ≤ (outOf xs).length := by
  induction xs with
  | nil => simp
  | cons x xs ih =>
    have := (fb_len (x := x)).1
    unfold outOf at ih ⊢
    rw [List.flatMap_cons, List.length_append, List.length_cons]
    omega

set_option maxRecDepth 100000 in
set_option maxHeartbeats 1600000 in
theorem wback_walk (v : Value) (xs : List Fld) (w : World) (hv : IsFlds w v xs) (hin : ∀ x ∈ xs, FldIn x) :
    Calls Try.prog 6 #[v] w fun e w' => e = .returned (.bool true) ∧ Below w.heap.size w w' := by
  have C1 := hide (write_any v xs w hv hin)
  have HV := hide hv
  obtain ⟨va, vc, rfl, -, -, -, -, -⟩ := hv
  rcases wrote_cases xs with ⟨h1, h2⟩ | ⟨h1, h2, h3⟩
  · rw [h2] at C1
    obtain ⟨E, hE⟩ : ∃ E, E = (wrote xs).2 := ⟨_, rfl⟩
    rw [← hE] at C1 h1
    have hne : (E != 0) = true := by simpa using h1
    clear hE h1 h2 hin
    go_enter Try.func6, Try.ntmps6
    go_wp2_with fail
    refine C1.out.mono ?_
    rintro e w1 ⟨rfl, g1⟩
    go_wp2_with fail
    refine (wlive_any _).mono ?_
    rintro e w2 ⟨rfl, g2⟩
    go_wp2
    go_ret
    exact ⟨rfl, grown_below (grown_trans g1 g2)⟩
  · rw [h3] at C1
    have HB := hide (back_all h1 hin h2)
    have hsz : (sof (outOf xs)).size = (outOf xs).length := sof_size _
    have hle := out_len xs
    obtain ⟨S, hS⟩ : ∃ S, S = sof (outOf xs) := ⟨_, rfl⟩
    rw [← hS] at C1 HB hsz
    have hsS : S.size ≤ 16777216 := by omega
    have hxl : xs.length * 40 ≤ 140737488351232 := by omega
    have C2 := hide (fun wx => fields_any S wx (by omega))
    clear hS hsz h1 h2 h3 hle hin
    go_enter Try.func6, Try.ntmps6
    go_wp2_with fail
    refine C1.out.mono ?_
    rintro e w1 ⟨rfl, g1⟩
    go_wp2_with fail
    refine (C2.out _).mono ?_
    rintro e w2 ⟨v2, E2, rfl, g2, h2⟩
    obtain ⟨rfl, ho⟩ : E2 = 0 ∧ OwnsL 34 4 fcells w2 w1.heap.size v2 xs := by
      rcases h2 with ⟨_, zs, a, b, c⟩ | ⟨_, a, _, _⟩ | ⟨a, _⟩
      · rw [HB.out] at a; cases a; exact ⟨b, c⟩
      · rw [HB.out] at a; cases a
      · omega
    have SM := hide (same_any _ _ xs w2 (ho.flds hxl) (HV.out.more (grown_trans g1 g2)))
    obtain ⟨a2, c2, rfl⟩ := ho.form
    clear h2 ho
    go_wp2_with fail
    refine SM.out.mono ?_
    rintro e w3 ⟨rfl, g3⟩
    go_wp2_with fail
    refine (wlive_any _).mono ?_
    rintro e w4 ⟨rfl, g4⟩
    go_wp2
    go_ret
    exact ⟨rfl, grown_below (grown_trans g1 (grown_trans g2 (grown_trans g3 g4)))⟩
end Go.Proofs.Ytoadpjegdhlphaa
