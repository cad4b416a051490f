/- What was read is written in no more bytes. -/
import Derived.Test.YtoadpjegdhlphaaWBack
namespace Go.Proofs.Ytoadpjegdhlphaa

theorem vbF_short : ∀ (f u n : Nat), 1 ≤ n → u < 128 ^ n → (vbF f u).length ≤ n := by
  intro f
  induction f with
  | zero => intro u n h1 _; simpa [vbF] using h1
  | succ f ih =>
    intro u n h1 h
    by_cases hs : u < 128
    · rw [vbF_small hs]; simpa using h1
    · rw [vbF_big hs, List.length_cons]
      obtain ⟨m, rfl⟩ : ∃ m, n = m + 1 := ⟨n - 1, by omega⟩
      rcases Nat.eq_zero_or_pos m with rfl | hm
      · simp at h; omega
      · have := ih (u / 128) m hm (by rw [Nat.pow_succ] at h; omega)
        omega

theorem tkF_short {s : ByteArray} {p : Nat} : ∀ (f i u : Nat), i + f = 10 → u < 128 ^ i → ∀ {v n}, tkF s p f i u = some (v, n) → p + i < n ∧ v < 128 ^ (n - p) := by
  intro f
  induction f with
  | zero => intro i u _ _ v n h; cases h
  | succ f ih =>
    intro i u hf hu v n h
    unfold tkF at h
    split at h
    · split at h
      · cases h
      · split at h
        · rename_i h3
          cases h
          refine ⟨by omega, ?_⟩
          rw [show p + i + 1 - p = i + 1 by omega, Nat.pow_succ]
          have h1 : bt s (p + i) * 128 ^ i ≤ 127 * 128 ^ i := Nat.mul_le_mul_right _ (by omega)
          omega
        · rename_i h2 h3
          have hi : i ≠ 9 := by rintro rfl; have := bt_lt s (p + 9); omega
          have := ih (i + 1) _ (by omega) (grp_lt (by omega) hu) h
          exact ⟨by omega, this.2⟩
    · cases h

theorem tk_short {s : ByteArray} {p v n : Nat} (h : tk s p = some (v, n)) : (vb v).length ≤ n - p := by
  obtain ⟨h1, h2⟩ := tkF_short 10 0 0 rfl (by simp) h
  exact vbF_short 10 v (n - p) (by omega) h2

theorem fdT_short {s : ByteArray} {t q : Nat} {x : Fld} {r : Nat} (hs : s.size ≤ 16777216) (h : fdT s t q = some (x, r)) :
    fok x = true ∧ FldIn x ∧ tagOf x = t ∧ (tailOf x).length ≤ r - q := by
  have l8 := low_lt s 8 q
  have l4 := low_lt s 4 q
  unfold fdT at h
  split at h
  · cases h
  · rename_i ht
    have hn1 : (1 : Int) ≤ ((t / 8 : Nat) : Int) := by omega
    have hn2 : ((t / 8 : Nat) : Int) ≤ 536870911 := by omega
    split at h
    · rename_i hk
      cases htk : tk s q with
      | none => rw [htk] at h; cases h
      | some y =>
        obtain ⟨u, n⟩ := y
        have hsp := tk_spec htk
        have hsh := tk_short htk
        rw [htk] at h
        cases h
        refine ⟨by simp [fok]; omega, ⟨by dsimp only; omega, by dsimp only; omega, by dsimp only; omega, by dsimp only; omega, by simp, by simp; omega, by simp⟩, by simp [tagOf]; omega, ?_⟩
        simpa [tailOf] using hsh
    · split at h
      · rename_i hk
        split at h
        · cases h
          simp at l8
          refine ⟨by simp [fok]; omega, ⟨by dsimp only; omega, by dsimp only; omega, by dsimp only; omega, by dsimp only; omega, by simp, by simp; omega, by simp⟩, by simp [tagOf]; omega, ?_⟩
          simp [tailOf, lo_len]
        · cases h
      · split at h
        · rename_i hk
          split at h
          · cases h
            simp at l4
            refine ⟨by simp [fok]; omega, ⟨by dsimp only; omega, by dsimp only; omega, by dsimp only; omega, by dsimp only; omega, by simp, by simp; omega, by simp⟩, by simp [tagOf]; omega, ?_⟩
            simp [tailOf, lo_len]
          · cases h
        · split at h
          · rename_i hk
            cases htk : tk s q with
            | none => rw [htk] at h; cases h
            | some y =>
              obtain ⟨u, n⟩ := y
              have hsp := tk_spec htk
              have hsh := tk_short htk
              rw [htk] at h
              simp only at h
              split at h
              · rename_i hle
                cases h
                have hz : (s.extract n (n + u)).size = u := by rw [ByteArray.size_extract]; omega
                refine ⟨by simp [fok]; omega, ⟨by dsimp only; omega, by dsimp only; omega, by dsimp only; omega, by dsimp only; omega, by simp, by simp, by rw [hz]; omega⟩, by simp [tagOf]; omega, ?_⟩
                unfold tailOf
                rw [if_neg (by simp), if_neg (by simp), if_neg (by simp), List.length_append, bytesOf_len]
                simp only [hz]
                omega
              · cases h
          · cases h

theorem fd_short {s : ByteArray} {p : Nat} {x : Fld} {r : Nat} (hs : s.size ≤ 16777216) (h : fd s p = some (x, r)) : fok x = true ∧ FldIn x ∧ (fb x).length ≤ r - p := by
  unfold fd at h
  cases hk : tk s p with
  | none => rw [hk] at h; cases h
  | some y =>
    obtain ⟨t, q⟩ := y
    rw [hk] at h
    obtain ⟨h1, h2, h3, h4⟩ := fdT_short hs h
    have h5 := tk_short hk
    have h6 := tk_spec hk
    have h7 := fdT_spec h
    refine ⟨h1, h2, ?_⟩
    unfold fb
    rw [List.length_append, h3]
    omega

theorem allF_short {s : ByteArray} (hs : s.size ≤ 16777216) : ∀ (f p : Nat) (xs : List Fld), p ≤ s.size → allF (fd s) s.size f p = some xs → (∀ x ∈ xs, fok x = true ∧ FldIn x) ∧ (xs.flatMap fb).length ≤ s.size - p := by
  intro f
  induction f with
  | zero => intro p xs _ h; cases h; exact ⟨fun x hx => by simp at hx, by simp⟩
  | succ f ih =>
    intro p xs hp h
    unfold allF at h
    split at h
    · cases hk : fd s p with
      | none => rw [hk] at h; cases h
      | some y =>
        obtain ⟨x, q⟩ := y
        have hsp := fd_spec hk
        obtain ⟨g1, g2, g3⟩ := fd_short hs hk
        rw [hk] at h
        simp only at h
        cases hr : allF (fd s) s.size f q with
        | none => rw [hr] at h; cases h
        | some zs =>
          rw [hr] at h
          cases h
          obtain ⟨i1, i2⟩ := ih q zs (by omega) hr
          refine ⟨fun y hy => ?_, ?_⟩
          · rcases List.mem_cons.1 hy with rfl | hy
            · exact ⟨g1, g2⟩
            · exact i1 y hy
          · rw [List.flatMap_cons, List.length_append]; omega
    · cases h; exact ⟨fun x hx => by simp at hx, by simp⟩
end Go.Proofs.Ytoadpjegdhlphaa
