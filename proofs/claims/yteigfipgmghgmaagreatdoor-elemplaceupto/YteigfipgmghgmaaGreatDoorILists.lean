/- Lists of whole numbers: new ones, parts of them, one more behind them. -/
import Derived.Test.YteigfipgmghgmaaGreatDoorSCopy
namespace Go.Proofs.YteigfipgmghgmaaGreatDoor
open Go.RowKit

/-- A new list of some numbers, whatever its type. -/
theorem ints_new (w : World) (zs : List Int) (t : TypeId) (hl : zs.length * 8 ≤ 140737488351232) (hz : ∀ z ∈ zs, -9223372036854775808 ≤ z ∧ z ≤ 9223372036854775807) :
    IsInts (w.alloc (.cells (zs.map (Value.int .i64)).toArray t)) (.slice (some ⟨w.heap.size, 0, none⟩) zs.length zs.length) zs := by
  refine ⟨_, _, rfl, Nat.le_refl _, by omega, hl, (fun h => by cases h), fun _ => ⟨_, _, rfl, fun k hk => ?_⟩, hz⟩
  rw [Nat.zero_add, cell_of_row _ _ k _ _ (0, 0) (heap_alloc_new w _)]
  simp [List.getD, hk]

/-- A part of a list. -/
theorem IsInts.part {w : World} {a : Option Addr} {n c : Nat} {zs : List Int} (h : IsInts w (.slice a n c) zs) (i j : Nat) (hij : i ≤ j) (hj : j ≤ zs.length) :
    ∃ a', IsInts w (.slice a' (j - i) (c - i)) ((zs.drop i).take (j - i)) ∧ (∀ b off, a = some ⟨b, off, none⟩ → a' = some ⟨b, off + i, none⟩) ∧ (a = none → a' = none) := by
  obtain ⟨ao, cap, e, h1, h2, h3, h4, h5, h6⟩ := h
  cases e
  have hlen : ((zs.drop i).take (j - i)).length = j - i := by simp; omega
  cases a with
  | none =>
    obtain ⟨rfl, rfl⟩ := h4 rfl
    have hj0 : j = 0 := by simpa using hj
    subst hj0
    have hi0 : i = 0 := by omega
    subst hi0
    exact ⟨none, ⟨none, 0, rfl, by simp, by simp, by simp, fun _ => ⟨by simp, rfl⟩, fun h => (by simp at h), fun z hz => (by simp at hz)⟩, (fun b off h => by cases h), fun _ => rfl⟩
  | some ad =>
    obtain ⟨b, off, sp⟩ := ad
    refine ⟨some ⟨b, off + i, sp⟩, ⟨some ⟨b, off + i, sp⟩, c - i, by rw [hlen], by rw [hlen]; omega, by omega, by rw [hlen]; omega, (fun h => by cases h), fun hp => ?_, fun z hz => h6 z (List.mem_of_mem_drop (List.mem_of_mem_take hz))⟩, (fun b' off' h => by cases h; rfl), fun h => by cases h⟩
    rw [hlen] at hp
    obtain ⟨b', off', e', hc⟩ := h5 (by omega)
    cases e'
    refine ⟨b, off + i, rfl, fun k hk => ?_⟩
    rw [hlen] at hk
    rw [Nat.add_assoc, hc (i + k) (by omega)]
    simp [List.getD, hk]
end Go.Proofs.YteigfipgmghgmaaGreatDoor
