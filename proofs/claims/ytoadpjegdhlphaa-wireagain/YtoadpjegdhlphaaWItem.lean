/- What the cursor takes: numbers of so many bytes, bytes with their length, fields; by the walk. -/
import Derived.Test.YtoadpjegdhlphaaWClone
import Derived.Deep.RegionWith
namespace Go.Proofs.Ytoadpjegdhlphaa
open Go.RowKit

theorem pow_256 (i : Nat) : 2 ^ (8 * i) = 256 ^ i := by rw [Nat.pow_mul]

theorem pow_256_le {i : Nat} (hi : i ≤ 8) : 256 ^ i ≤ 18446744073709551616 := by
  have : i = 0 ∨ i = 1 ∨ i = 2 ∨ i = 3 ∨ i = 4 ∨ i = 5 ∨ i = 6 ∨ i = 7 ∨ i = 8 := by omega
  rcases this with rfl | rfl | rfl | rfl | rfl | rfl | rfl | rfl | rfl <;> simp

theorem or_low (s : ByteArray) (p k : Nat) (hk : k ≤ 7) : bits .or .u64 (low s p k : Int) (IntKind.u64.wrap ((bt s (p + k) : Int) * 2 ^ (8 * k))) = (low s p (k + 1) : Int) := by
  have h1 := low_lt s (k + 1) p
  have h2 := pow_256_le (i := k + 1) (by omega)
  have h3 := low_lt s k p
  rw [low_snoc] at h1
  rw [or_add _ _ (8 * k) (by rw [pow_256]; exact h3) (by rw [pow_256]; omega), pow_256, low_snoc]

theorem of_drew {a b : World} {row : Option Nat} (h : a.drew.grownBy b row) : a.grownBy b row := ⟨h.os, h.tape, h.output, h.size, h.block⟩

/-- What fixed answers. -/
def Fixd (s : ByteArray) (p n b : Nat) (w : World) (e : Ending) (w' : World) : Prop :=
  w.grownBy w' (some b) ∧ ((p + n ≤ s.size ∧ e = .returned (.int .u64 (low s p n)) ∧ Cur w' b s (p + n)) ∨ (s.size < p + n ∧ e = .panicked bad))

set_option maxRecDepth 100000 in
set_option maxHeartbeats 1600000 in
theorem fixed_any (b : Nat) (s : ByteArray) (p n : Nat) (w : World) (h : Cur w b s p) (hn : n ≤ 8) :
    Calls Try.prog 35 #[.pointer (some ⟨b, 0, none⟩), .int .i64 n] w fun e w' => Fixd s p n b w e w' := by
  go_enter Try.func35, Try.ntmps35
  go_wp2
  go_loopw [5, 8] (fun u i wr => ∃ k : Nat, k ≤ n ∧ i = .int .i64 k ∧ u = .int .u64 (low s p k) ∧ Cur wr b s (p + k) ∧ w.grownBy wr (some b)) (fun _ i _ => n - (intOf i).toNat)
  case atStart => exact ⟨0, by omega, rfl, rfl, h, World.grownBy.refl _ _⟩
  case round =>
    obtain ⟨k, hk, rfl, rfl, hcur, hg⟩ := hrel
    rename_i wr
    have hpk := hcur.2.2.2.2
    have hbt := bt_lt s (p + k)
    by_cases hlt : k < n
    · by_cases hin : p + k < s.size
      · have NX := hide (next_one b s (p + k) wr hcur hin)
        have HO := hide (or_low s p k (by omega))
        clear hcur
        go_wp2_with fail
        refine NX.out.mono ?_
        rintro e w1 ⟨rfl, hc1, hg1⟩
        have HC := hide hc1
        clear hc1
        go_wp2
        rw [HO.out]
        go_roundw
        case rel => exact ⟨k + 1, by omega, by go_num, rfl, HC.out, row_trans hg hg1⟩
        case measure => simp [intOf]; omega
      · have NX := hide (next_end b s (p + k) wr hcur hin)
        clear hcur
        go_wp2_with fail
        refine NX.out.mono ?_
        rintro e w1 ⟨rfl, hg1⟩
        go_wp2
        exact ⟨rfl, row_trans hg hg1, .inr ⟨by omega, rfl⟩⟩
    · obtain rfl : k = n := by omega
      have HC := hide hcur
      clear hcur
      go_wp2
      go_ret
      exact ⟨hg, .inl ⟨by omega, rfl, HC.out⟩⟩

/-- What bytes answers. -/
def Byts (s : ByteArray) (p b : Nat) (w : World) (e : Ending) (w' : World) : Prop :=
  w.grownBy w' (some b) ∧ ((∃ n r, tk s p = some (n, r) ∧ n ≤ s.size - r ∧ e = .returned (.string (s.extract r (r + n))) ∧ Cur w' b s (r + n)) ∨ ((tk s p = none ∨ ∃ n r, tk s p = some (n, r) ∧ ¬ n ≤ s.size - r) ∧ e = .panicked bad))

set_option maxRecDepth 100000 in
set_option maxHeartbeats 1600000 in
theorem bytes_any (b : Nat) (s : ByteArray) (p : Nat) (w : World) (h : Cur w b s p) (hs : s.size ≤ 16777216) :
    Calls Try.prog 36 #[.pointer (some ⟨b, 0, none⟩)] w fun e w' => Byts s p b w e w' := by
  have V := hide (varint_any b s p w h)
  go_enter Try.func36, Try.ntmps36
  go_wp2_with fail
  refine V.out.mono ?_
  rintro e w1 ⟨hg1, ⟨n, r, ht, rfl, hc⟩ | ⟨ht, rfl⟩⟩
  · have HT := hide ht
    have hsp := tk_spec ht
    have HC := hide hc
    obtain ⟨h0, h1, hf, -, hr⟩ := hc
    clear ht
    by_cases hle : n ≤ s.size - r
    · go_wp2
      go_region
      all_goals
        go_wp2
        have hc2 := HC.out.set (r + n) (by omega)
        rw [show ((r + n : Nat) : Int) = (r : Int) + n by omega] at hc2
        obtain ⟨w2, hw2⟩ : ∃ w2, w2 = w1.setCell ⟨b, 1, none⟩ (.int .i64 ((r : Int) + n)) := ⟨_, rfl⟩
        have hg2 : w.grownBy w2 (some b) := by rw [hw2]; exact row_trans hg1 (grown_set _ _ _ _)
        rw [← hw2] at hc2
        rw [← hw2]
        clear hw2 h0 h1 hf
        have HC2 := hide hc2
        obtain ⟨k0, k1, -, -, -⟩ := hc2
        have CL := hide (fun wx => clone_any (s.extract r (r + n)) wx (by rw [ByteArray.size_extract]; omega))
        go_region_with (go_at_call 43; refine (CL.out _).mono ?_; rintro e w3 ⟨rfl, hg3'⟩; have hg3 := of_drew (of_drew hg3'))
        all_goals
          go_wp2
          go_ret
          exact ⟨row_trans hg2 (row_of_none _ hg3), .inl ⟨n, r, HT.out, hle, rfl, HC2.out.more hg3⟩⟩
    · go_wp2
      go_region
      all_goals
        go_wp2
        exact ⟨rfl, row_drew hg1, .inr ⟨.inr ⟨n, r, HT.out, hle⟩, rfl⟩⟩
  · go_wp2
    exact ⟨rfl, hg1, .inr ⟨.inl ht, rfl⟩⟩
end Go.Proofs.Ytoadpjegdhlphaa
