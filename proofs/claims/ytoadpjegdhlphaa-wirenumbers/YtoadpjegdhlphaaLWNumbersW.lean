/- WireNumbers, by the walk. -/
import Derived.Test.YtoadpjegdhlphaaWLive
namespace Go.Proofs.Ytoadpjegdhlphaa
open Go.RowKit

theorem wnumbers_walk (a0 : Int) (hu0 : 0 ≤ a0) (hu1 : a0 < 18446744073709551616) (s : ByteArray) (hs : s.size ≤ 140737488351232) (p : Int) (w : World) :
    Calls Try.prog 3 #[.int .u64 a0, .string s, .int .i64 p] w fun e w' => e = .returned (.bool true) ∧ Below w.heap.size w w' := by
  obtain ⟨u, rfl⟩ : ∃ u : Nat, a0 = u := ⟨a0.toNat, by omega⟩
  have hu : u < 18446744073709551616 := by omega
  have C1 := hide (fun wx => takeV_any s p wx (by omega))
  have C2 := hide (fun wx => reftakeV_any s p wx (by omega))
  have C3 := hide (fun wx => varintS_any u wx hu)
  have C4 := hide (fun wx => refvarintS_any u wx hu)
  obtain ⟨⟨x, y, z⟩, hT⟩ : ∃ t, t = TV s p := ⟨_, rfl⟩
  rw [← hT] at C1 C2
  obtain ⟨S, hS⟩ : ∃ S, S = sof (vb u) := ⟨_, rfl⟩
  rw [← hS] at C3 C4
  clear hT hS
  go_enter Try.func3, Try.ntmps3
  go_wp2_with fail
  refine (C1.out _).mono ?_
  rintro e w1 ⟨rfl, g1⟩
  go_wp2_with fail
  refine (C2.out _).mono ?_
  rintro e w2 ⟨rfl, rfl⟩
  go_wp2_with fail
  refine (C3.out _).mono ?_
  rintro e w3 ⟨rfl, g3⟩
  go_wp2_with fail
  refine (C4.out _).mono ?_
  rintro e w4 ⟨rfl, g4⟩
  go_wp2_with fail
  refine (wlive_any _).mono ?_
  rintro e w5 ⟨rfl, g5⟩
  go_wp2
  go_ret
  exact ⟨rfl, grown_below (grown_trans g1 (grown_trans g3 (grown_trans g4 g5)))⟩
end Go.Proofs.Ytoadpjegdhlphaa
