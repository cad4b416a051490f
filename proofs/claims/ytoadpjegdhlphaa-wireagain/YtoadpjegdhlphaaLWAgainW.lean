/- WireAgain, by the walk. -/
import Derived.Test.YtoadpjegdhlphaaLWBackW
import Derived.Test.YtoadpjegdhlphaaWShort
namespace Go.Proofs.Ytoadpjegdhlphaa
open Go.RowKit

set_option maxRecDepth 100000 in
set_option maxHeartbeats 1600000 in
theorem wagain_walk (s : ByteArray) (hs : s.size ≤ 140737488351232) (w : World) :
    Calls Try.prog 7 #[.string s] w fun e w' => e = .returned (.bool true) ∧ Below w.heap.size w w' := by
  have C1 := hide (fun wx => fields_any s wx (by omega))
  go_enter Try.func7, Try.ntmps7
  go_wp2_with fail
  refine (C1.out _).mono ?_
  rintro e w1 ⟨v1, E1, rfl, g1, h1⟩
  rcases h1 with ⟨hsz, xs, hx, rfl, ho⟩ | ⟨_, _, rfl, rfl⟩ | ⟨_, rfl, rfl⟩
  · obtain ⟨hok, hlen⟩ := allF_short hsz _ _ _ (Nat.zero_le _) hx
    have hf : ∀ x ∈ xs, fok x = true := fun x hm => (hok x hm).1
    have hin : ∀ x ∈ xs, FldIn x := fun x hm => (hok x hm).2
    have hl : (outOf xs).length ≤ s.size := by unfold outOf; omega
    have hxl := out_len xs
    have HF1 := ho.flds (by omega)
    have C2 := hide (write_any v1 xs w1 HF1 hin)
    have hw : wrote xs = (sof (outOf xs), 0) := by unfold wrote; rw [if_pos (List.all_eq_true.2 hf), if_pos (by omega)]
    rw [hw] at C2
    have HB := hide (back_all hf hin (by omega))
    have hsS : (sof (outOf xs)).size = (outOf xs).length := sof_size _
    obtain ⟨S, hS⟩ : ∃ S, S = sof (outOf xs) := ⟨_, rfl⟩
    rw [← hS] at C2 HB hsS
    have hle : S.size ≤ s.size := by omega
    have hxl2 : xs.length * 40 ≤ 140737488351232 := by omega
    have C3 := hide (fun wx => fields_any S wx (by omega))
    have HF := hide HF1
    obtain ⟨a1, c1, rfl⟩ := ho.form
    clear hS hsS hw hxl hl hlen hok hf hin hx ho HF1
    go_wp2_with fail
    refine C2.out.mono ?_
    rintro e w2 ⟨rfl, g2⟩
    go_wp2_with fail
    refine (C3.out _).mono ?_
    rintro e w3 ⟨v3, E3, rfl, g3, h3⟩
    obtain ⟨rfl, ho⟩ : E3 = 0 ∧ OwnsL 34 4 fcells w3 w2.heap.size v3 xs := by
      rcases h3 with ⟨_, zs, a, b, c⟩ | ⟨_, a, _, _⟩ | ⟨a, _⟩
      · rw [HB.out] at a; cases a; exact ⟨b, c⟩
      · rw [HB.out] at a; cases a
      · omega
    have SM := hide (same_any _ _ xs w3 (HF.out.more (grown_trans g2 g3)) (ho.flds hxl2))
    obtain ⟨a3, c3, rfl⟩ := ho.form
    clear h3 ho HF
    go_wp2_with fail
    refine SM.out.mono ?_
    rintro e w4 ⟨rfl, g4⟩
    go_wp2_with fail
    refine (wlive_any _).mono ?_
    rintro e w5 ⟨rfl, g5⟩
    go_wp2
    go_ret
    exact ⟨rfl, grown_below (grown_trans g1 (grown_trans g2 (grown_trans g3 (grown_trans g4 g5))))⟩
  all_goals
    go_wp2_with fail
    refine (wlive_any _).mono ?_
    rintro e w5 ⟨rfl, g5⟩
    go_wp2
    go_ret
    exact ⟨rfl, grown_below (grown_trans g1 g5)⟩
end Go.Proofs.Ytoadpjegdhlphaa
