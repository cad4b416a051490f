/- Two lists of texts that are the same; what must be there, by the walk. -/
import Derived.Test.YteigfipgmghgmaaGreatDoorNCheck
namespace Go.Proofs.YteigfipgmghgmaaGreatDoor
open Go.RowKit

theorem lit_isL {α : Type} {te : TypeId} {bytes size : Nat} {f : α → List Value} (hf : ∀ a, (f a).length = size) {w : World} {g : Nat} {cs : Array Value} {xs : List α} (hb : w.heap[g]? = some (.cells cs te (0, 0))) (hc : cs.toList = xs.flatMap f) (hl : xs.length * bytes ≤ 140737488351232) (hm : xs.length ≤ 1000) :
    IsL bytes size f w (.slice (some ⟨g, 0, none⟩) xs.length xs.length) xs := by
  have hcs : cs.size = xs.length * size := by rw [← Array.length_toList, hc, flat_len hf]
  have ho : OwnsL te size f w 0 (.slice (some ⟨g, 0, none⟩) xs.length xs.length) xs := by
    refine ⟨flat_len hf xs, Or.inr ⟨g, xs.length, cs, rfl, Nat.zero_le _, hb, Nat.le_refl _, by simp only [maxLen]; omega, hcs, ?_⟩⟩
    rw [hc]
    exact List.take_of_length_le (by rw [flat_len hf]; exact Nat.le_refl _)
  exact ho.isL hf hl

theorem scell_len (s : ByteArray) : (scell s).length = 1 := rfl

theorem acells_len (a : Atr) : (acells a).length = 9 := rfl

def thenA (s : ByteArray) : Atr := ⟨⟨#[116, 104, 101, 110]⟩, 3, 0, 0, s, 0, ⟨none, 0, 0⟩, ⟨none, 0, 0⟩, ⟨none, 0, 0⟩⟩

theorem find_then (s : ByteArray) : [thenA s].find? (isA ⟨#[116, 104, 101, 110]⟩ 3) = some (thenA s) := by
  simp [thenA, isA, bytes_toList]

theorem attrs_then (s : ByteArray) : attrsE [thenRa] [thenA s] = 0 := by
  simp [attrsE, chk1, lacks, thenRa, thenA, sameR, bytes_toList]

theorem e_relu : checkE (some (1, 1, [thenRa])) [⟨#[120]⟩] ⟨#[121]⟩ [] = 0 := by
  simp [checkE, isS, bytes_toList, attrsE, chk1, lacks, thenRa, thenE]

theorem e_cast : checkE (some (1, 1, [⟨⟨#[116, 111]⟩, 2, true⟩, thenRa])) [⟨#[120]⟩] ⟨#[121]⟩ [] = 4 := by
  simp [checkE, isS, bytes_toList, attrsE, chk1, lacks, thenRa]

theorem e_add (s : ByteArray) : checkE (some (2, 2, [thenRa])) [⟨#[120]⟩, ⟨#[121]⟩] ⟨#[122]⟩ [thenA s] = thenE (some (thenA s)) := by
  simp only [checkE, attrs_then, find_then]
  simp [isS, bytes_toList]

theorem e_one (s : ByteArray) : checkE (some (1, 1, [thenRa])) [⟨#[120]⟩] ⟨#[121]⟩ [thenA s] = thenE (some (thenA s)) := by
  simp only [checkE, attrs_then, find_then]
  simp [isS, bytes_toList]

def reluNeg : ByteArray := ⟨#[82, 101, 108, 117, 44, 78, 101, 103]⟩

theorem then_live : thenE (some (thenA reluNeg)) = 0 ∧ thenL (some (thenA reluNeg)) = [⟨#[82, 101, 108, 117]⟩, ⟨#[78, 101, 103]⟩] := by
  have hp : pcs (thenA reluNeg).s.data.toList = [[82, 101, 108, 117], [78, 101, 103]] := by rfl
  have h := then_all hp (by simp [isOne, ones, bytes_toList, B])
  exact h

theorem lit_one (w : World) (x : ByteArray) : IsStrs (w.alloc (.cells #[.string x] 9)) (.slice (some ⟨w.heap.size, 0, none⟩) 1 1) [x] :=
  lit_isL (xs := [x]) scell_len (heap_alloc_new w _) rfl (by simp) (by simp)

theorem lit_two (w : World) (x y : ByteArray) : IsStrs (w.alloc (.cells #[.string x, .string y] 9)) (.slice (some ⟨w.heap.size, 0, none⟩) 2 2) [x, y] :=
  lit_isL (xs := [x, y]) scell_len (heap_alloc_new w _) rfl (by simp) (by simp)

theorem lit_then (w : World) (s : ByteArray) : IsAttrs (w.alloc (.cells #[.string ⟨#[116, 104, 101, 110]⟩, .int .i64 3, .int .i64 0, .int .i64 0, .string s, .int .i64 0, .slice none 0 0, .slice none 0 0, .slice none 0 0] 92)) (.slice (some ⟨w.heap.size, 0, none⟩) 1 1) [thenA s] :=
  lit_isL (xs := [thenA s]) acells_len (heap_alloc_new w _) rfl (by simp) (by simp)

end Go.Proofs.YteigfipgmghgmaaGreatDoor
