/- Some answers that the document gives: live of the statements of package wire. -/
import Derived.Test.YtoadpjegdhlphaaWVar
namespace Go.Proofs.Ytoadpjegdhlphaa
open Go.RowKit

def s1 : ByteArray := ⟨#[172, 2]⟩
def s2 : ByteArray := ⟨#[8, 150, 1, 18, 2, 97, 98]⟩
def s3 : ByteArray := ⟨#[11]⟩

theorem tv1 : TV s1 0 = (300, 2, 0) := by decide +kernel
theorem vb300 : sof (vb 300) = s1 := by rfl
theorem all2 : all (fd s2) 7 = some [⟨1, 0, 150, ByteArray.empty⟩, ⟨2, 2, 0, ⟨#[97, 98]⟩⟩] := by kernel_rfl
theorem all3 : all (fd s3) 1 = none := by kernel_rfl

theorem two_cells {w : World} {base : Nat} {v : Value} {x y : Fld} (h : OwnsL 34 4 fcells w base v [x, y]) : ∃ g cap, v = .slice (some ⟨g, 0, none⟩) 2 cap ∧ (∀ j : Nat, j < 8 → w.cell? ⟨g, j, none⟩ = (fcells x ++ fcells y)[j]?) := by
  have h0 := h
  rcases h.2 with ⟨_, h1⟩ | ⟨g, cap, cur, rfl, _⟩
  · simp at h1
  · exact ⟨g, cap, rfl, fun j hj => by rw [World.ownsRow.cellAt h0 j (by simp; omega)]; simp⟩

set_option maxRecDepth 100000 in
set_option maxHeartbeats 1600000 in
theorem wlive_any (w : World) : Calls Try.prog 13 #[] w fun e w' => e = .returned (.bool true) ∧ w.grownBy w' none := by
  go_enter Try.func13, Try.ntmps13
  go_wp2_with fail
  have c1 := takeV_any s1 0 w (by decide)
  rw [tv1] at c1
  refine c1.mono ?_
  clear c1
  rintro e w1 ⟨rfl, g1⟩
  go_wp2_with fail
  refine (fields_any s2 w1 (by decide)).mono ?_
  rintro e w2 ⟨v, E, rfl, g2, hr⟩
  obtain ⟨rfl, ho⟩ : E = 0 ∧ OwnsL 34 4 fcells w2 w1.heap.size v [⟨1, 0, 150, ByteArray.empty⟩, ⟨2, 2, 0, ⟨#[97, 98]⟩⟩] := by
    rcases hr with ⟨_, xs, h1, h2, h3⟩ | ⟨_, h1, _⟩ | ⟨h1, _⟩
    · have h1' : some [⟨1, 0, 150, ByteArray.empty⟩, ⟨2, 2, 0, ⟨#[97, 98]⟩⟩] = some xs := all2.symm.trans h1
      cases h1'
      exact ⟨h2, h3⟩
    · have := all2.symm.trans h1; cases this
    · exact absurd h1 (by decide)
  clear hr
  go_wp2_with fail
  refine (fields_any s3 w2 (by decide)).mono ?_
  rintro e w3 ⟨v3, E, rfl, g3, hr⟩
  obtain ⟨rfl, rfl⟩ : E = 3 ∧ v3 = .slice none 0 0 := by
    rcases hr with ⟨_, xs, h1, h2, h3⟩ | ⟨_, h1, h2⟩ | ⟨h1, _⟩
    · have := all3.symm.trans h1; cases this
    · exact h2
    · exact absurd h1 (by decide)
  clear hr
  go_wp2_with fail
  refine (varintS_any 300 w3 (by decide)).mono ?_
  rw [vb300]
  rintro e w4 ⟨rfl, g4⟩
  have g123 := grown_trans g1 (grown_trans g2 (grown_trans g3 g4))
  obtain ⟨gb, cap, rfl, hc⟩ := two_cells (ho.more (grown_trans g3 g4))
  have q0 := hc 0 (by omega)
  have q1 := hc 1 (by omega)
  have q2 := hc 2 (by omega)
  have q3 := hc 3 (by omega)
  have q4 := hc 4 (by omega)
  have q5 := hc 5 (by omega)
  have q6 := hc 6 (by omega)
  have q7 := hc 7 (by omega)
  simp [fcells] at q0 q1 q2 q3 q4 q5 q6 q7
  clear hc ho
  have e1 : (s1.toList == [172, 2]) = true := by decide +kernel
  go_wp2
  go_ret
  exact ⟨rfl, g123⟩
end Go.Proofs.Ytoadpjegdhlphaa
