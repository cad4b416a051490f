/- Whether an operator is one of one, by the walk over the package's list (mkOne.py). -/
import Derived.Test.YteigfipgmghgmaaGreatDoorNClone
namespace Go.Proofs.YteigfipgmghgmaaGreatDoor
open Go.RowKit

/-- The operators of one. -/
def ones : List (List UInt8) := [[73, 100, 101, 110, 116, 105, 116, 121], [78, 101, 103], [65, 98, 115], [78, 111, 116], [82, 101, 108, 117], [83, 113, 114, 116], [70, 108, 111, 111, 114], [69, 120, 112], [83, 105, 103, 109, 111, 105, 100], [84, 97, 110, 104]]

/-- The package's list lies where it was laid. -/
def Laid (w : World) : Prop :=
  w.cell? ⟨1, 0, none⟩ = some (.string ⟨#[73, 100, 101, 110, 116, 105, 116, 121]⟩) ∧ w.cell? ⟨1, 1, none⟩ = some (.string ⟨#[78, 101, 103]⟩) ∧ w.cell? ⟨1, 2, none⟩ = some (.string ⟨#[65, 98, 115]⟩) ∧ w.cell? ⟨1, 3, none⟩ = some (.string ⟨#[78, 111, 116]⟩) ∧ w.cell? ⟨1, 4, none⟩ = some (.string ⟨#[82, 101, 108, 117]⟩) ∧ w.cell? ⟨1, 5, none⟩ = some (.string ⟨#[83, 113, 114, 116]⟩) ∧ w.cell? ⟨1, 6, none⟩ = some (.string ⟨#[70, 108, 111, 111, 114]⟩) ∧ w.cell? ⟨1, 7, none⟩ = some (.string ⟨#[69, 120, 112]⟩) ∧ w.cell? ⟨1, 8, none⟩ = some (.string ⟨#[83, 105, 103, 109, 111, 105, 100]⟩) ∧ w.cell? ⟨1, 9, none⟩ = some (.string ⟨#[84, 97, 110, 104]⟩)

theorem Laid.more {w w' : World} (h : Laid w) (hg : w.grownBy w' none) : Laid w' := by
  have hb : 1 < w.heap.size := World.block_lt_of_cell? w _ h.1
  have e : ∀ j, w'.cell? ⟨1, j, none⟩ = w.cell? ⟨1, j, none⟩ := fun j => World.cell?_of_block (hg.block 1 hb (by simp))
  unfold Laid
  simp only [e]
  exact h

theorem any_step {l : List (List UInt8)} {f : List UInt8 → Bool} {k : Nat} {x : List UInt8} (h : (l.take k).any f = false) (hx : l[k]? = some x) (hf : f x = false) : (l.take (k + 1)).any f = false := by
  rw [List.take_add_one, List.any_append, h, hx]
  simp [hf]

def isOne (s : ByteArray) : Bool := ones.any (fun n => n == s.toList)

set_option maxRecDepth 100000 in
set_option maxHeartbeats 6400000 in
theorem ofone_any (s : ByteArray) (w : World) (hl : Laid w) :
    Calls Tryz.prog 129 #[.string s] w fun e w' => e = .returned (.bool (isOne s)) ∧ w.grownBy w' none := by
  obtain ⟨c0, c1, c2, c3, c4, c5, c6, c7, c8, c9⟩ := hl
  go_enter Tryz.func129, Tryz.ntmps129
  go_wp2_with fail
  clear c0 c1 c2 c3 c4 c5 c6 c7 c8 c9
  go_loopw [6] (fun i wr => w.grownBy wr none ∧ ∃ k : Nat, k ≤ 10 ∧ i = .int .i64 k ∧ (ones.take k).any (fun n => n == s.toList) = false) (fun i _ => 10 - (intOf i).toNat)
  case atStart => exact ⟨grown_refl _, 0, by omega, rfl, rfl⟩
  case round =>
    obtain ⟨hg, k, hk, rfl, hno⟩ := hrel
    have HNO := hide hno
    clear hno
    obtain rfl | rfl | rfl | rfl | rfl | rfl | rfl | rfl | rfl | rfl | rfl : k = 0 ∨ k = 1 ∨ k = 2 ∨ k = 3 ∨ k = 4 ∨ k = 5 ∨ k = 6 ∨ k = 7 ∨ k = 8 ∨ k = 9 ∨ k = 10 := by omega
    · have ix : ∀ W, (Instr.index 180 (.agg #[.string ⟨#[73, 100, 101, 110, 116, 105, 116, 121]⟩, .string ⟨#[78, 101, 103]⟩, .string ⟨#[65, 98, 115]⟩, .string ⟨#[78, 111, 116]⟩, .string ⟨#[82, 101, 108, 117]⟩, .string ⟨#[83, 113, 114, 116]⟩, .string ⟨#[70, 108, 111, 111, 114]⟩, .string ⟨#[69, 120, 112]⟩, .string ⟨#[83, 105, 103, 109, 111, 105, 100]⟩, .string ⟨#[84, 97, 110, 104]⟩]) (.int .i64 0)).run Tryz.prog W = .ok (.string ⟨#[73, 100, 101, 110, 116, 105, 116, 121]⟩) W := fun _ => by kernel_rfl
      by_cases h : (([73, 100, 101, 110, 116, 105, 116, 121] : List UInt8) == s.toList) = true
      · have H := hide h
        go_wp2
        go_ret
        exact ⟨by have h1 := H.out; simp [isOne, ones, eq_of_beq h1], hg⟩
      · have h' : (([73, 100, 101, 110, 116, 105, 116, 121] : List UInt8) == s.toList) = false := by simpa using h
        have H := hide h'
        clear h
        go_wp2
        go_roundw
        case rel => exact ⟨hg, 1, by omega, by go_num, any_step HNO.out rfl H.out⟩
        case measure => simp [intOf]
    · have ix : ∀ W, (Instr.index 180 (.agg #[.string ⟨#[73, 100, 101, 110, 116, 105, 116, 121]⟩, .string ⟨#[78, 101, 103]⟩, .string ⟨#[65, 98, 115]⟩, .string ⟨#[78, 111, 116]⟩, .string ⟨#[82, 101, 108, 117]⟩, .string ⟨#[83, 113, 114, 116]⟩, .string ⟨#[70, 108, 111, 111, 114]⟩, .string ⟨#[69, 120, 112]⟩, .string ⟨#[83, 105, 103, 109, 111, 105, 100]⟩, .string ⟨#[84, 97, 110, 104]⟩]) (.int .i64 1)).run Tryz.prog W = .ok (.string ⟨#[78, 101, 103]⟩) W := fun _ => by kernel_rfl
      by_cases h : (([78, 101, 103] : List UInt8) == s.toList) = true
      · have H := hide h
        go_wp2
        go_ret
        exact ⟨by have h1 := H.out; simp [isOne, ones, eq_of_beq h1], hg⟩
      · have h' : (([78, 101, 103] : List UInt8) == s.toList) = false := by simpa using h
        have H := hide h'
        clear h
        go_wp2
        go_roundw
        case rel => exact ⟨hg, 2, by omega, by go_num, any_step HNO.out rfl H.out⟩
        case measure => simp [intOf]
    · have ix : ∀ W, (Instr.index 180 (.agg #[.string ⟨#[73, 100, 101, 110, 116, 105, 116, 121]⟩, .string ⟨#[78, 101, 103]⟩, .string ⟨#[65, 98, 115]⟩, .string ⟨#[78, 111, 116]⟩, .string ⟨#[82, 101, 108, 117]⟩, .string ⟨#[83, 113, 114, 116]⟩, .string ⟨#[70, 108, 111, 111, 114]⟩, .string ⟨#[69, 120, 112]⟩, .string ⟨#[83, 105, 103, 109, 111, 105, 100]⟩, .string ⟨#[84, 97, 110, 104]⟩]) (.int .i64 2)).run Tryz.prog W = .ok (.string ⟨#[65, 98, 115]⟩) W := fun _ => by kernel_rfl
      by_cases h : (([65, 98, 115] : List UInt8) == s.toList) = true
      · have H := hide h
        go_wp2
        go_ret
        exact ⟨by have h1 := H.out; simp [isOne, ones, eq_of_beq h1], hg⟩
      · have h' : (([65, 98, 115] : List UInt8) == s.toList) = false := by simpa using h
        have H := hide h'
        clear h
        go_wp2
        go_roundw
        case rel => exact ⟨hg, 3, by omega, by go_num, any_step HNO.out rfl H.out⟩
        case measure => simp [intOf]
    · have ix : ∀ W, (Instr.index 180 (.agg #[.string ⟨#[73, 100, 101, 110, 116, 105, 116, 121]⟩, .string ⟨#[78, 101, 103]⟩, .string ⟨#[65, 98, 115]⟩, .string ⟨#[78, 111, 116]⟩, .string ⟨#[82, 101, 108, 117]⟩, .string ⟨#[83, 113, 114, 116]⟩, .string ⟨#[70, 108, 111, 111, 114]⟩, .string ⟨#[69, 120, 112]⟩, .string ⟨#[83, 105, 103, 109, 111, 105, 100]⟩, .string ⟨#[84, 97, 110, 104]⟩]) (.int .i64 3)).run Tryz.prog W = .ok (.string ⟨#[78, 111, 116]⟩) W := fun _ => by kernel_rfl
      by_cases h : (([78, 111, 116] : List UInt8) == s.toList) = true
      · have H := hide h
        go_wp2
        go_ret
        exact ⟨by have h1 := H.out; simp [isOne, ones, eq_of_beq h1], hg⟩
      · have h' : (([78, 111, 116] : List UInt8) == s.toList) = false := by simpa using h
        have H := hide h'
        clear h
        go_wp2
        go_roundw
        case rel => exact ⟨hg, 4, by omega, by go_num, any_step HNO.out rfl H.out⟩
        case measure => simp [intOf]
    · have ix : ∀ W, (Instr.index 180 (.agg #[.string ⟨#[73, 100, 101, 110, 116, 105, 116, 121]⟩, .string ⟨#[78, 101, 103]⟩, .string ⟨#[65, 98, 115]⟩, .string ⟨#[78, 111, 116]⟩, .string ⟨#[82, 101, 108, 117]⟩, .string ⟨#[83, 113, 114, 116]⟩, .string ⟨#[70, 108, 111, 111, 114]⟩, .string ⟨#[69, 120, 112]⟩, .string ⟨#[83, 105, 103, 109, 111, 105, 100]⟩, .string ⟨#[84, 97, 110, 104]⟩]) (.int .i64 4)).run Tryz.prog W = .ok (.string ⟨#[82, 101, 108, 117]⟩) W := fun _ => by kernel_rfl
      by_cases h : (([82, 101, 108, 117] : List UInt8) == s.toList) = true
      · have H := hide h
        go_wp2
        go_ret
        exact ⟨by have h1 := H.out; simp [isOne, ones, eq_of_beq h1], hg⟩
      · have h' : (([82, 101, 108, 117] : List UInt8) == s.toList) = false := by simpa using h
        have H := hide h'
        clear h
        go_wp2
        go_roundw
        case rel => exact ⟨hg, 5, by omega, by go_num, any_step HNO.out rfl H.out⟩
        case measure => simp [intOf]
    · have ix : ∀ W, (Instr.index 180 (.agg #[.string ⟨#[73, 100, 101, 110, 116, 105, 116, 121]⟩, .string ⟨#[78, 101, 103]⟩, .string ⟨#[65, 98, 115]⟩, .string ⟨#[78, 111, 116]⟩, .string ⟨#[82, 101, 108, 117]⟩, .string ⟨#[83, 113, 114, 116]⟩, .string ⟨#[70, 108, 111, 111, 114]⟩, .string ⟨#[69, 120, 112]⟩, .string ⟨#[83, 105, 103, 109, 111, 105, 100]⟩, .string ⟨#[84, 97, 110, 104]⟩]) (.int .i64 5)).run Tryz.prog W = .ok (.string ⟨#[83, 113, 114, 116]⟩) W := fun _ => by kernel_rfl
      by_cases h : (([83, 113, 114, 116] : List UInt8) == s.toList) = true
      · have H := hide h
        go_wp2
        go_ret
        exact ⟨by have h1 := H.out; simp [isOne, ones, eq_of_beq h1], hg⟩
      · have h' : (([83, 113, 114, 116] : List UInt8) == s.toList) = false := by simpa using h
        have H := hide h'
        clear h
        go_wp2
        go_roundw
        case rel => exact ⟨hg, 6, by omega, by go_num, any_step HNO.out rfl H.out⟩
        case measure => simp [intOf]
    · have ix : ∀ W, (Instr.index 180 (.agg #[.string ⟨#[73, 100, 101, 110, 116, 105, 116, 121]⟩, .string ⟨#[78, 101, 103]⟩, .string ⟨#[65, 98, 115]⟩, .string ⟨#[78, 111, 116]⟩, .string ⟨#[82, 101, 108, 117]⟩, .string ⟨#[83, 113, 114, 116]⟩, .string ⟨#[70, 108, 111, 111, 114]⟩, .string ⟨#[69, 120, 112]⟩, .string ⟨#[83, 105, 103, 109, 111, 105, 100]⟩, .string ⟨#[84, 97, 110, 104]⟩]) (.int .i64 6)).run Tryz.prog W = .ok (.string ⟨#[70, 108, 111, 111, 114]⟩) W := fun _ => by kernel_rfl
      by_cases h : (([70, 108, 111, 111, 114] : List UInt8) == s.toList) = true
      · have H := hide h
        go_wp2
        go_ret
        exact ⟨by have h1 := H.out; simp [isOne, ones, eq_of_beq h1], hg⟩
      · have h' : (([70, 108, 111, 111, 114] : List UInt8) == s.toList) = false := by simpa using h
        have H := hide h'
        clear h
        go_wp2
        go_roundw
        case rel => exact ⟨hg, 7, by omega, by go_num, any_step HNO.out rfl H.out⟩
        case measure => simp [intOf]
    · have ix : ∀ W, (Instr.index 180 (.agg #[.string ⟨#[73, 100, 101, 110, 116, 105, 116, 121]⟩, .string ⟨#[78, 101, 103]⟩, .string ⟨#[65, 98, 115]⟩, .string ⟨#[78, 111, 116]⟩, .string ⟨#[82, 101, 108, 117]⟩, .string ⟨#[83, 113, 114, 116]⟩, .string ⟨#[70, 108, 111, 111, 114]⟩, .string ⟨#[69, 120, 112]⟩, .string ⟨#[83, 105, 103, 109, 111, 105, 100]⟩, .string ⟨#[84, 97, 110, 104]⟩]) (.int .i64 7)).run Tryz.prog W = .ok (.string ⟨#[69, 120, 112]⟩) W := fun _ => by kernel_rfl
      by_cases h : (([69, 120, 112] : List UInt8) == s.toList) = true
      · have H := hide h
        go_wp2
        go_ret
        exact ⟨by have h1 := H.out; simp [isOne, ones, eq_of_beq h1], hg⟩
      · have h' : (([69, 120, 112] : List UInt8) == s.toList) = false := by simpa using h
        have H := hide h'
        clear h
        go_wp2
        go_roundw
        case rel => exact ⟨hg, 8, by omega, by go_num, any_step HNO.out rfl H.out⟩
        case measure => simp [intOf]
    · have ix : ∀ W, (Instr.index 180 (.agg #[.string ⟨#[73, 100, 101, 110, 116, 105, 116, 121]⟩, .string ⟨#[78, 101, 103]⟩, .string ⟨#[65, 98, 115]⟩, .string ⟨#[78, 111, 116]⟩, .string ⟨#[82, 101, 108, 117]⟩, .string ⟨#[83, 113, 114, 116]⟩, .string ⟨#[70, 108, 111, 111, 114]⟩, .string ⟨#[69, 120, 112]⟩, .string ⟨#[83, 105, 103, 109, 111, 105, 100]⟩, .string ⟨#[84, 97, 110, 104]⟩]) (.int .i64 8)).run Tryz.prog W = .ok (.string ⟨#[83, 105, 103, 109, 111, 105, 100]⟩) W := fun _ => by kernel_rfl
      by_cases h : (([83, 105, 103, 109, 111, 105, 100] : List UInt8) == s.toList) = true
      · have H := hide h
        go_wp2
        go_ret
        exact ⟨by have h1 := H.out; simp [isOne, ones, eq_of_beq h1], hg⟩
      · have h' : (([83, 105, 103, 109, 111, 105, 100] : List UInt8) == s.toList) = false := by simpa using h
        have H := hide h'
        clear h
        go_wp2
        go_roundw
        case rel => exact ⟨hg, 9, by omega, by go_num, any_step HNO.out rfl H.out⟩
        case measure => simp [intOf]
    · have ix : ∀ W, (Instr.index 180 (.agg #[.string ⟨#[73, 100, 101, 110, 116, 105, 116, 121]⟩, .string ⟨#[78, 101, 103]⟩, .string ⟨#[65, 98, 115]⟩, .string ⟨#[78, 111, 116]⟩, .string ⟨#[82, 101, 108, 117]⟩, .string ⟨#[83, 113, 114, 116]⟩, .string ⟨#[70, 108, 111, 111, 114]⟩, .string ⟨#[69, 120, 112]⟩, .string ⟨#[83, 105, 103, 109, 111, 105, 100]⟩, .string ⟨#[84, 97, 110, 104]⟩]) (.int .i64 9)).run Tryz.prog W = .ok (.string ⟨#[84, 97, 110, 104]⟩) W := fun _ => by kernel_rfl
      by_cases h : (([84, 97, 110, 104] : List UInt8) == s.toList) = true
      · have H := hide h
        go_wp2
        go_ret
        exact ⟨by have h1 := H.out; simp [isOne, ones, eq_of_beq h1], hg⟩
      · have h' : (([84, 97, 110, 104] : List UInt8) == s.toList) = false := by simpa using h
        have H := hide h'
        clear h
        go_wp2
        go_roundw
        case rel => exact ⟨hg, 10, by omega, by go_num, any_step HNO.out rfl H.out⟩
        case measure => simp [intOf]
    · go_wp2
      go_ret
      exact ⟨by have h1 := HNO.out; rw [show isOne s = (ones.take 10).any (fun n => n == s.toList) from rfl, h1]; rfl, hg⟩
end Go.Proofs.YteigfipgmghgmaaGreatDoor
