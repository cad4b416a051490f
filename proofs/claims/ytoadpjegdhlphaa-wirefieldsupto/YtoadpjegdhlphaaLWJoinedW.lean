/- WireJoined, by the walk. -/
import Derived.Test.YtoadpjegdhlphaaWSame
import Derived.Test.YtoadpjegdhlphaaWJoin
namespace Go.Proofs.Ytoadpjegdhlphaa
open Go.RowKit

/-- So many fields as bytes, no more. -/
theorem allF_len {s : ByteArray} : ∀ (f p : Nat) (xs : List Fld), allF (fd s) s.size f p = some xs → p + xs.length ≤ s.size ∨ xs = [] := by
  intro f
  induction f with
  | zero => intro p xs h; cases h; exact .inr rfl
  | succ f ih =>
    intro p xs h
    unfold allF at h
    split at h
    · cases hk : fd s p with
      | none => rw [hk] at h; cases h
      | some y =>
        obtain ⟨x, q⟩ := y
        have hsp := fd_spec hk
        rw [hk] at h
        simp only at h
        cases hr : allF (fd s) s.size f q with
        | none => rw [hr] at h; cases h
        | some zs =>
          rw [hr] at h
          cases h
          left
          rcases ih q zs hr with h1 | rfl
          · simp; omega
          · simp; omega
    · cases h; exact .inr rfl

theorem all_len {s : ByteArray} {xs : List Fld} (h : all (fd s) s.size = some xs) : xs.length ≤ s.size := by
  rcases allF_len _ _ _ h with h1 | rfl
  · omega
  · simp

set_option maxRecDepth 100000 in
set_option maxHeartbeats 1600000 in
theorem wjoined_walk (s : ByteArray) (hs : s.size ≤ 140737488351232) (t : ByteArray) (ht : t.size ≤ 140737488351232) (w : World) :
    Calls Try.prog 8 #[.string s, .string t] w fun e w' => e = .returned (.bool true) ∧ Below w.heap.size w w' := by
  have C1 := hide (fun wx => fields_any s wx (by omega))
  have C2 := hide (fun wx => fields_any t wx (by omega))
  go_enter Try.func8, Try.ntmps8
  go_wp2_with fail
  refine (C1.out _).mono ?_
  rintro e w1 ⟨v1, E1, rfl, g1, h1⟩
  go_wp2_with fail
  refine (C2.out _).mono ?_
  rintro e w2 ⟨v2, E2, rfl, g2, h2⟩
  have g12 := grown_trans g1 g2
  by_cases hok : E1 = 0 ∧ E2 = 0 ∧ s.size + t.size ≤ 16777216
  · obtain ⟨rfl, rfl, hle⟩ := hok
    obtain ⟨xs, hx, hox⟩ : ∃ xs, all (fd s) s.size = some xs ∧ OwnsL 34 4 fcells w1 w.heap.size v1 xs := by
      rcases h1 with ⟨_, xs, a, _, b⟩ | ⟨_, _, a, _⟩ | ⟨_, a, _⟩
      · exact ⟨xs, a, b⟩
      · cases a
      · cases a
    obtain ⟨ys, hy, hoy⟩ : ∃ ys, all (fd t) t.size = some ys ∧ OwnsL 34 4 fcells w2 w1.heap.size v2 ys := by
      rcases h2 with ⟨_, ys, a, _, b⟩ | ⟨_, _, a, _⟩ | ⟨_, a, _⟩
      · exact ⟨ys, a, b⟩
      · cases a
      · cases a
    have lx := all_len hx
    have ly := all_len hy
    have hsz : (s ++ t).size = s.size + t.size := ByteArray.size_append
    have C3 := hide (fun wx => fields_any (s ++ t) wx (by omega))
    have HJ := hide (all_join hx hy)
    have IX := hide ((hox.flds (by omega)).more g2)
    have IY := hide (hoy.flds (by omega))
    obtain ⟨xa, xc, rfl⟩ := hox.form
    obtain ⟨ya, yc, rfl⟩ := hoy.form
    have HSZ := hide hsz
    clear h1 h2 hx hy hox hoy hsz
    go_wp2_with fail
    refine (C3.out _).mono ?_
    rintro e w3 ⟨v3, E3, rfl, g3, h3⟩
    obtain ⟨rfl, hoz⟩ : E3 = 0 ∧ OwnsL 34 4 fcells w3 w2.heap.size v3 (xs ++ ys) := by
      rcases h3 with ⟨_, zs, a, b, c⟩ | ⟨_, a, _, _⟩ | ⟨a, _⟩
      · rw [HJ.out] at a; cases a; exact ⟨b, c⟩
      · rw [HJ.out] at a; cases a
      · rw [HSZ.out] at a; omega
    obtain ⟨za, zc, rfl⟩ := hoz.form
    have IZ := hide (hoz.flds (by simp; omega))
    have HX3 := hide (IX.out.more g3)
    have HY3 := hide (IY.out.more g3)
    clear h3 hoz IX IY
    go_wp2_with (at_builtin; first | (refine wpList_appF rfl (.tmp 44) (.tmp 45) rfl w3.heap.size _ [] rfl (OwnsL.nil _ _ _ _ _) _ xs rfl HX3.out ?_ (Nat.le_refl _) ?_; (simp; omega); intro v4 w4 hown4 hg4; have G4 := own_row (OwnsL.nil 34 4 fcells w3 w3.heap.size) (grown_refl w3) (Nat.le_refl _) hg4; have HO4 := hide hown4; clear hown4 hg4) | (refine wpList_appF rfl (.tmp 47) (.tmp 48) rfl w3.heap.size _ _ rfl HO4.out _ ys rfl (by exact HY3.out.more G4) ?_ G4.size ?_; (simp; omega); intro v5 w5 hown5 hg5; have G5 := own_row HO4.out G4 (Nat.le_refl _) hg5))
    have I5 : IsFlds w5 v5 (xs ++ ys) := by
      rw [List.nil_append] at hown5
      exact hown5.flds (by simp; omega)
    have I3 : IsFlds w5 (.slice za (xs.length + ys.length) zc) (xs ++ ys) := by
      have := IZ.out.more G5
      rw [List.length_append] at this
      exact this
    have SM := hide (same_any _ _ _ w5 I3 I5)
    have G := grown_trans g12 (grown_trans g3 G5)
    clear hown5 hg5 I5 I3 IZ HX3 HY3 HO4
    refine SM.out.mono ?_
    rintro e w6 ⟨rfl, g6⟩
    go_wp2_with fail
    refine (wlive_any _).mono ?_
    rintro e w7 ⟨rfl, g7⟩
    go_wp2
    go_ret
    exact ⟨rfl, grown_below (grown_trans G (grown_trans g6 g7))⟩
  · have hbad : (E1 != 0) = true ∨ (E1 = 0 ∧ ((E2 != 0) = true ∨ (E2 = 0 ∧ 16777216 < s.size + t.size))) := by
      by_cases e1 : E1 = 0
      · by_cases e2 : E2 = 0
        · exact .inr ⟨e1, .inr ⟨e2, by omega⟩⟩
        · exact .inr ⟨e1, .inl (by simpa using e2)⟩
      · exact .inl (by simpa using e1)
    clear hok h1 h2
    rcases hbad with hb | ⟨rfl, hb | ⟨rfl, hb⟩⟩
    all_goals
      go_wp2_with fail
      refine (wlive_any _).mono ?_
      rintro e w5 ⟨rfl, g5⟩
      go_wp2
      go_ret
      exact ⟨rfl, grown_below (grown_trans g12 g5)⟩
end Go.Proofs.Ytoadpjegdhlphaa
