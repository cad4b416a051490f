/- Lists of whole numbers in memory: what a slice reads as, and what stays of it behind new blocks and writes elsewhere. -/
import Derived.Test.YteigfipgmghgmaaGreatDoorSPlain
import Derived.Test.YteigfipgmghgmaaGreatDoorRows
import Derived.WalkKit
import Derived.WalkSpells
import Derived.Laws.AppendOwnNone
namespace Go.Proofs.YteigfipgmghgmaaGreatDoor
open Go.RowKit

theorem hide {p : Prop} (h : p) : Hid p := h

/-- The value v is the list zs of whole numbers, in the world w. -/
def IsInts (w : World) (v : Value) (zs : List Int) : Prop :=
  ∃ ao cap, v = .slice ao zs.length cap ∧ zs.length ≤ cap ∧ cap ≤ 9223372036854775807 ∧ zs.length * 8 ≤ 140737488351232 ∧ (ao = none → zs = [] ∧ cap = 0) ∧
    (0 < zs.length → ∃ b off, ao = some ⟨b, off, none⟩ ∧ ∀ t, t < zs.length → w.cell? ⟨b, off + t, none⟩ = some (.int .i64 (zs.getD t 0))) ∧
    (∀ z ∈ zs, -9223372036854775808 ≤ z ∧ z ≤ 9223372036854775807)

theorem IsInts.le {w : World} {v : Value} {zs : List Int} (h : IsInts w v zs) : zs.length * 8 ≤ 140737488351232 := by
  obtain ⟨_, _, _, _, _, h, _⟩ := h; exact h
theorem IsInts.wf {w : World} {v : Value} {zs : List Int} (h : IsInts w v zs) : ∀ z ∈ zs, -9223372036854775808 ≤ z ∧ z ≤ 9223372036854775807 := by
  obtain ⟨_, _, _, _, _, _, _, _, h⟩ := h; exact h

theorem IsInts.kept {w w' : World} {v : Value} {zs : List Int} (h : IsInts w v zs) (hk : ∀ b, b < w.heap.size → v.ownBlock = some b → w'.heap[b]? = w.heap[b]?) : IsInts w' v zs := by
  obtain ⟨ao, cap, rfl, h1, h2, h3, h4, h5, h6⟩ := h
  refine ⟨ao, cap, rfl, h1, h2, h3, h4, fun hl => ?_, h6⟩
  obtain ⟨b, off, rfl, hc⟩ := h5 hl
  refine ⟨b, off, rfl, fun t ht => ?_⟩
  have hb : b < w.heap.size := World.block_lt_of_cell? w _ (hc t ht)
  rw [← hc t ht]
  exact World.cell?_of_block (hk b hb rfl)

/-- Behind new blocks, and writes to one row that is not its own. -/
theorem IsInts.grown {w w' : World} {v : Value} {zs : List Int} (h : IsInts w v zs) {row : Option Nat} (hg : w.grownBy w' row) (hne : v.ownBlock = none ∨ v.ownBlock ≠ row) : IsInts w' v zs :=
  h.kept fun b hb hv => hg.block b hb (by rcases hne with h0 | h0 <;> simp_all)

theorem IsInts.more {w w' : World} {v : Value} {zs : List Int} (h : IsInts w v zs) (hg : w.grownBy w' none) : IsInts w' v zs :=
  h.kept fun b hb _ => hg.block b hb (by simp)

/-- A list of the call's own. -/
def Owns (w : World) (base : Nat) (v : Value) (zs : List Int) : Prop :=
  w.ownsRow base 3 1 v zs.length (zs.map (Value.int .i64)) ∧ zs.length * 8 ≤ 140737488351232 ∧ (∀ z ∈ zs, -9223372036854775808 ≤ z ∧ z ≤ 9223372036854775807)

theorem Owns.ints {w : World} {base : Nat} {v : Value} {zs : List Int} (h : Owns w base v zs) : IsInts w v zs := by
  obtain ⟨hr, hle, hwf⟩ := h
  have hr0 := hr
  rcases hr.2 with ⟨rfl, h0⟩ | ⟨g, cap, cur, rfl, _, _, hnc, hcm, _, _⟩
  · obtain rfl : zs = [] := List.length_eq_zero_iff.1 h0
    exact ⟨none, 0, rfl, by simp, by simp, by simp, fun _ => ⟨rfl, rfl⟩, fun h => by simp at h, fun z hz => by simp at hz⟩
  · refine ⟨_, cap, rfl, hnc, by simpa [maxLen] using hcm, hle, (fun h => by cases h), fun _ => ⟨g, 0, rfl, fun t ht => ?_⟩, hwf⟩
    rw [Nat.zero_add, hr0.cellAt t (by omega)]
    simp [List.getD, ht]

theorem Owns.more {w w' : World} {base : Nat} {v : Value} {zs : List Int} (h : Owns w base v zs) {row : Option Nat} (hg : w.grownBy w' row) (hne : v.ownBlock = none ∨ v.ownBlock ≠ row) : Owns w' base v zs :=
  ⟨h.1.kept hg hne, h.2⟩

theorem Owns.new {w w' : World} {base : Nat} {v : Value} {zs : List Int} (h : Owns w base v zs) (hg : w.grownBy w' none) : Owns w' base v zs :=
  h.more hg (by cases v.ownBlock <;> simp)

theorem Owns.base_le {w : World} {base b' : Nat} {v : Value} {zs : List Int} (h : Owns w base v zs) (hb : b' ≤ base) : Owns w b' v zs := by
  refine ⟨⟨h.1.1, ?_⟩, h.2⟩
  rcases h.1.2 with h0 | ⟨g, cap, cur, e, hg, r⟩
  · exact .inl h0
  · exact .inr ⟨g, cap, cur, e, by omega, r⟩

theorem grown_trans {a b c : World} (h : a.grownBy b none) (k : b.grownBy c none) : a.grownBy c none :=
  ⟨k.os.trans h.os, k.tape.trans h.tape, k.output.trans h.output, Nat.le_trans h.size k.size, fun i hi _ => (k.block i (Nat.lt_of_lt_of_le hi h.size) (by simp)).trans (h.block i hi (by simp))⟩

/-- Writes to a row that was not there yet are none to what was there. -/
theorem grown_trans_row {a b c : World} (h : a.grownBy b none) {row : Option Nat} (k : b.grownBy c row) (hr : ∀ g, row = some g → a.heap.size ≤ g) : a.grownBy c none :=
  ⟨k.os.trans h.os, k.tape.trans h.tape, k.output.trans h.output, Nat.le_trans h.size k.size, fun i hi _ => (k.block i (Nat.lt_of_lt_of_le hi h.size) (fun e => by have := hr i e.symm; omega)).trans (h.block i hi (by simp))⟩

theorem grown_drew {a b : World} (h : a.grownBy b none) : a.grownBy b.drew none := ⟨h.os, h.tape, h.output, h.size, h.block⟩
theorem grown_refl (a : World) : a.grownBy a none := World.grownBy.refl a none
theorem grown_new (a : World) (o : Obj) : a.grownBy (a.alloc o) none := World.grownBy_alloc a o none
theorem grown_below {W w : World} (h : W.grownBy w none) : Below W.heap.size W w := ⟨h.os, h.tape, h.output, h.size, fun k hk => h.block k hk (by simp)⟩

theorem Owns.lt {w : World} {base : Nat} {v : Value} {zs : List Int} (h : Owns w base v zs) : ∀ k, v.ownBlock = some k → base ≤ k ∧ k < w.heap.size := h.1.lt

/-- Two lists of the call's own that were made one behind the other lie apart. -/
theorem apart_of {v v' : Value} {a b : Nat} (h : ∀ k, v.ownBlock = some k → k < a) (h' : ∀ k, v'.ownBlock = some k → b ≤ k) (hab : a ≤ b) : v.ownBlock = none ∨ v.ownBlock ≠ v'.ownBlock := by
  cases hv : v.ownBlock with
  | none => exact .inl rfl
  | some k =>
    refine .inr fun e => ?_
    have h1 := h k hv
    have h2 := h' k e.symm
    omega

theorem ints_lt {w : World} {v : Value} {zs : List Int} (h : IsInts w v zs) (hz : zs ≠ []) : ∀ k, v.ownBlock = some k → k < w.heap.size := by
  obtain ⟨ao, cap, rfl, _, _, _, _, h5, _⟩ := h
  have hl : 0 < zs.length := by cases zs <;> simp_all
  obtain ⟨b, off, rfl, hc⟩ := h5 hl
  intro k hk
  simp only [Value.ownBlock, Option.some.injEq] at hk
  subst hk
  exact World.block_lt_of_cell? w _ (hc 0 hl)

end Go.Proofs.YteigfipgmghgmaaGreatDoor
