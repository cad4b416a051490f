/- Joined texts: NClone, NOne. -/
import Derived.Test.YtabddmiffcnnjaaGreatDoorQartAE
import Derived.Lib.Strings
import Derived.Lib.Walk
import Derived.Lib.BufferWrite
import Derived.Lib.UnsafeStr
import Derived.Laws.MakeOwn
namespace Go.Proofs.YtabddmiffcnnjaaGreatDoor

open Go.RowKit

theorem infoByte : (Tryz.prog.info? 5).map (fun i => (i.zero, i.size, i.bytes)) = some (some (.int .u8 0), 1, 1) := by kernel_rfl

set_option maxHeartbeats 4000000 in
set_option maxRecDepth 100000 in
theorem clonelite_any (s : ByteArray) (w : World) (hlim : s.size ≤ 281474976710656) :
    Calls Tryz.prog 93 #[.string s] w fun e w' => e = .returned (.string s) ∧ Below w.heap.size w w' := by
  by_cases h0 : s.size = 0
  · have hs : s = ⟨#[]⟩ := ByteArray.ext (Array.eq_empty_of_size_eq_zero h0)
    subst hs
    go_enter Tryz.func93, Tryz.ntmps93
    go_wp2
    go_ret
    exact ⟨rfl, Below.refl _ _⟩
  · obtain ⟨i0, hi, hz0, hz1, hz2⟩ := info_parts infoByte
    have hinfo : (Tryz.prog.info? 5).map (·.size) = some 1 := by rw [hi]; simp [hz1]
    have hco : Tryz.prog.cellsOf 5 = 1 := by simp [Program.cellsOf, hi, hz1]
    obtain ⟨M, hM⟩ : ∃ M, M = madeCells (Value.int .u8 0).cells (((s.size : Nat) : Int).toNat * i0.size) := ⟨_, rfl⟩
    have hMs : M.size = s.size := by rw [hM, size_madeCells, hz1]; simp
    have hmk : ∀ W : World, (Instr.makeSlice 161 (.int .i64 (s.size : Int)) (.int .i64 (s.size : Int))).run Tryz.prog W = .ok (.slice (some ⟨W.heap.size, 0, none⟩) s.size s.size) (W.alloc (.cells M 5)) := fun W => by
      have h := run_make (P := Tryz.prog) W 161 5 i0 (.int .u8 0) Tryz.underlying161 hi hz0 .i64 .i64 (s.size : Int) (s.size : Int) (by omega) (by omega) (by rw [hz2]; omega) (by omega)
      rw [← hM] at h
      simpa using h
    clear hM
    have hcp := Lib.run_copy_row_string (P := Tryz.prog) (w.alloc (.cells M 5)) 161 9 3 5 w.heap.size 0 s.size s.size s M 5 Tryz.underlying161 hinfo (heap_alloc_new w _) (Nat.le_refl _) (by omega)
    obtain ⟨Y, hY⟩ : ∃ Y, Y = (M.toList.take 0 ++ Lib.byteCells s.data.toList ++ M.toList.drop (0 + s.size)).toArray := ⟨_, rfl⟩
    rw [← hY] at hcp
    have hYl : Y.toList = Lib.byteCells s.data.toList := by
      rw [hY, List.toList_toArray, List.take_zero, List.nil_append, List.drop_of_length_le (by rw [Array.length_toList]; omega), List.append_nil]
    have hgY : ((w.alloc (.cells M 5)).setRow w.heap.size Y).heap[w.heap.size]? = some (.cells Y 5 (0, 0)) := setRow_heap _ _ M _ 5 (0, 0) (heap_alloc_new w _)
    have hne : s.data.toList ≠ [] := fun e => h0 (by rw [Lib.size_eq, e]; rfl)
    have hYs : Y.size = s.size := by rw [← Array.length_toList, hYl, Lib.byteCells_length, ← Lib.size_eq]
    have hUS := Lib.run_unsafeString_row (P := Tryz.prog) ((w.alloc (.cells M 5)).setRow w.heap.size Y) 162 3 9 5 Tryz.underlying162 hco w.heap.size Y.size (by unfold World.shape?; rw [hgY]) s.data.toList hne (by rw [← Lib.size_eq]; omega) (by rw [← Lib.size_eq]; omega)
      (fun j x hx => Lib.cells_of_row hgY Y.size j _ (by rw [List.take_of_length_le (by rw [Array.length_toList]; exact Nat.le_refl _), hYl]; simp [Lib.byteCells, hx]))
    rw [← Lib.size_eq] at hUS
    clear hY
    go_enter Tryz.func93, Tryz.ntmps93
    go_wp2
    go_ret
    have hb1 : Below w.heap.size w (w.alloc (.cells M 5)) := (Below.refl _ w).alloc (Nat.le_refl _) _
    have hb2 : Below w.heap.size (w.alloc (.cells M 5)) ((w.alloc (.cells M 5)).setRow w.heap.size Y) := ⟨rfl, rfl, rfl, by simp, fun k hk => setRow_other _ _ _ _ (by omega)⟩
    exact ⟨rfl, Lib.below_freeze (hb1.trans hb2) (p := ⟨w.heap.size, 0, none⟩) (Nat.le_refl _) _⟩

theorem below_grown {w w' : World} (h : Below w.heap.size w w') : w.grownBy w' none := ⟨h.os, h.tape, h.output, h.size, fun k hk _ => h.block k hk⟩

theorem strclone_any (s : ByteArray) (w : World) (hlim : s.size ≤ 281474976710656) :
    Calls Tryz.prog 46 #[.string s] w fun e w' => e = .returned (.string s) ∧ w.grownBy w' none := by
  go_enter Tryz.func46, Tryz.ntmps46
  go_wp2_with fail
  refine (clonelite_any s w hlim).mono ?_
  rintro e w1 ⟨rfl, hb⟩
  go_wp2
  go_ret
  exact ⟨rfl, below_grown hb⟩

end Go.Proofs.YtabddmiffcnnjaaGreatDoor

namespace Go.Proofs.YtabddmiffcnnjaaGreatDoor

open Go.RowKit

def ones : List (List UInt8) := [[73, 100, 101, 110, 116, 105, 116, 121], [78, 101, 103], [65, 98, 115], [78, 111, 116], [82, 101, 108, 117], [83, 113, 114, 116], [70, 108, 111, 111, 114], [69, 120, 112], [83, 105, 103, 109, 111, 105, 100], [84, 97, 110, 104]]

def Laid (w : World) : Prop :=
  w.cell? ⟨0, 0, none⟩ = some (.string ⟨#[73, 100, 101, 110, 116, 105, 116, 121]⟩) ∧ w.cell? ⟨0, 1, none⟩ = some (.string ⟨#[78, 101, 103]⟩) ∧ w.cell? ⟨0, 2, none⟩ = some (.string ⟨#[65, 98, 115]⟩) ∧ w.cell? ⟨0, 3, none⟩ = some (.string ⟨#[78, 111, 116]⟩) ∧ w.cell? ⟨0, 4, none⟩ = some (.string ⟨#[82, 101, 108, 117]⟩) ∧ w.cell? ⟨0, 5, none⟩ = some (.string ⟨#[83, 113, 114, 116]⟩) ∧ w.cell? ⟨0, 6, none⟩ = some (.string ⟨#[70, 108, 111, 111, 114]⟩) ∧ w.cell? ⟨0, 7, none⟩ = some (.string ⟨#[69, 120, 112]⟩) ∧ w.cell? ⟨0, 8, none⟩ = some (.string ⟨#[83, 105, 103, 109, 111, 105, 100]⟩) ∧ w.cell? ⟨0, 9, none⟩ = some (.string ⟨#[84, 97, 110, 104]⟩)

theorem Laid.more {w w' : World} (h : Laid w) (hg : w.grownBy w' none) : Laid w' := by
  have hb : 0 < w.heap.size := World.block_lt_of_cell? w _ h.1
  have e : ∀ j, w'.cell? ⟨0, j, none⟩ = w.cell? ⟨0, j, none⟩ := fun j => World.cell?_of_block (hg.block 0 hb (by simp))
  unfold Laid
  simp only [e]
  exact h

theorem any_step {l : List (List UInt8)} {f : List UInt8 → Bool} {k : Nat} {x : List UInt8} (h : (l.take k).any f = false) (hx : l[k]? = some x) (hf : f x = false) : (l.take (k + 1)).any f = false := by
  rw [List.take_add_one, List.any_append, h, hx]
  simp [hf]

def isOne (s : ByteArray) : Bool := ones.any (fun n => n == s.toList)

set_option maxRecDepth 100000 in
set_option maxHeartbeats 6400000 in
theorem ofone_any (s : ByteArray) (w : World) (hl : Laid w) :
    Calls Tryz.prog 45 #[.string s] w fun e w' => e = .returned (.bool (isOne s)) ∧ w.grownBy w' none := by
  obtain ⟨c0, c1, c2, c3, c4, c5, c6, c7, c8, c9⟩ := hl
  go_enter Tryz.func45, Tryz.ntmps45
  go_wp2_with fail
  clear c0 c1 c2 c3 c4 c5 c6 c7 c8 c9
  go_loopw [6] (fun i wr => w.grownBy wr none ∧ ∃ k : Nat, k ≤ 10 ∧ i = .int .i64 k ∧ (ones.take k).any (fun n => n == s.toList) = false) (fun i _ => 10 - (intOf i).toNat)
  case atStart => exact ⟨grown_refl _, 0, by omega, rfl, rfl⟩
  case round =>
    obtain ⟨hg, k, hk, rfl, hno⟩ := hrel
    have HNO := hide hno
    clear hno
    obtain rfl | rfl | rfl | rfl | rfl | rfl | rfl | rfl | rfl | rfl | rfl : k = 0 ∨ k = 1 ∨ k = 2 ∨ k = 3 ∨ k = 4 ∨ k = 5 ∨ k = 6 ∨ k = 7 ∨ k = 8 ∨ k = 9 ∨ k = 10 := by omega
    · have ix : ∀ W, (Instr.index 126 (.agg #[.string ⟨#[73, 100, 101, 110, 116, 105, 116, 121]⟩, .string ⟨#[78, 101, 103]⟩, .string ⟨#[65, 98, 115]⟩, .string ⟨#[78, 111, 116]⟩, .string ⟨#[82, 101, 108, 117]⟩, .string ⟨#[83, 113, 114, 116]⟩, .string ⟨#[70, 108, 111, 111, 114]⟩, .string ⟨#[69, 120, 112]⟩, .string ⟨#[83, 105, 103, 109, 111, 105, 100]⟩, .string ⟨#[84, 97, 110, 104]⟩]) (.int .i64 0)).run Tryz.prog W = .ok (.string ⟨#[73, 100, 101, 110, 116, 105, 116, 121]⟩) W := fun _ => by kernel_rfl
      by_cases h : (([73, 100, 101, 110, 116, 105, 116, 121] : List UInt8) == s.toList) = true
      · have H := hide h
        go_wp2
        go_ret
        exact ⟨by have h1 := H.out; simp [isOne, ones, eq_of_beq h1], hg⟩
      · have h' : (([73, 100, 101, 110, 116, 105, 116, 121] : List UInt8) == s.toList) = false := by simpa using h
        have H := hide h'
        clear h
        go_wp2
        go_roundw
        case rel => exact ⟨hg, 1, by omega, by go_num, any_step HNO.out rfl H.out⟩
        case measure => simp [intOf]
    · have ix : ∀ W, (Instr.index 126 (.agg #[.string ⟨#[73, 100, 101, 110, 116, 105, 116, 121]⟩, .string ⟨#[78, 101, 103]⟩, .string ⟨#[65, 98, 115]⟩, .string ⟨#[78, 111, 116]⟩, .string ⟨#[82, 101, 108, 117]⟩, .string ⟨#[83, 113, 114, 116]⟩, .string ⟨#[70, 108, 111, 111, 114]⟩, .string ⟨#[69, 120, 112]⟩, .string ⟨#[83, 105, 103, 109, 111, 105, 100]⟩, .string ⟨#[84, 97, 110, 104]⟩]) (.int .i64 1)).run Tryz.prog W = .ok (.string ⟨#[78, 101, 103]⟩) W := fun _ => by kernel_rfl
      by_cases h : (([78, 101, 103] : List UInt8) == s.toList) = true
      · have H := hide h
        go_wp2
        go_ret
        exact ⟨by have h1 := H.out; simp [isOne, ones, eq_of_beq h1], hg⟩
      · have h' : (([78, 101, 103] : List UInt8) == s.toList) = false := by simpa using h
        have H := hide h'
        clear h
        go_wp2
        go_roundw
        case rel => exact ⟨hg, 2, by omega, by go_num, any_step HNO.out rfl H.out⟩
        case measure => simp [intOf]
    · have ix : ∀ W, (Instr.index 126 (.agg #[.string ⟨#[73, 100, 101, 110, 116, 105, 116, 121]⟩, .string ⟨#[78, 101, 103]⟩, .string ⟨#[65, 98, 115]⟩, .string ⟨#[78, 111, 116]⟩, .string ⟨#[82, 101, 108, 117]⟩, .string ⟨#[83, 113, 114, 116]⟩, .string ⟨#[70, 108, 111, 111, 114]⟩, .string ⟨#[69, 120, 112]⟩, .string ⟨#[83, 105, 103, 109, 111, 105, 100]⟩, .string ⟨#[84, 97, 110, 104]⟩]) (.int .i64 2)).run Tryz.prog W = .ok (.string ⟨#[65, 98, 115]⟩) W := fun _ => by kernel_rfl
      by_cases h : (([65, 98, 115] : List UInt8) == s.toList) = true
      · have H := hide h
        go_wp2
        go_ret
        exact ⟨by have h1 := H.out; simp [isOne, ones, eq_of_beq h1], hg⟩
      · have h' : (([65, 98, 115] : List UInt8) == s.toList) = false := by simpa using h
        have H := hide h'
        clear h
        go_wp2
        go_roundw
        case rel => exact ⟨hg, 3, by omega, by go_num, any_step HNO.out rfl H.out⟩
        case measure => simp [intOf]
    · have ix : ∀ W, (Instr.index 126 (.agg #[.string ⟨#[73, 100, 101, 110, 116, 105, 116, 121]⟩, .string ⟨#[78, 101, 103]⟩, .string ⟨#[65, 98, 115]⟩, .string ⟨#[78, 111, 116]⟩, .string ⟨#[82, 101, 108, 117]⟩, .string ⟨#[83, 113, 114, 116]⟩, .string ⟨#[70, 108, 111, 111, 114]⟩, .string ⟨#[69, 120, 112]⟩, .string ⟨#[83, 105, 103, 109, 111, 105, 100]⟩, .string ⟨#[84, 97, 110, 104]⟩]) (.int .i64 3)).run Tryz.prog W = .ok (.string ⟨#[78, 111, 116]⟩) W := fun _ => by kernel_rfl
      by_cases h : (([78, 111, 116] : List UInt8) == s.toList) = true
      · have H := hide h
        go_wp2
        go_ret
        exact ⟨by have h1 := H.out; simp [isOne, ones, eq_of_beq h1], hg⟩
      · have h' : (([78, 111, 116] : List UInt8) == s.toList) = false := by simpa using h
        have H := hide h'
        clear h
        go_wp2
        go_roundw
        case rel => exact ⟨hg, 4, by omega, by go_num, any_step HNO.out rfl H.out⟩
        case measure => simp [intOf]
    · have ix : ∀ W, (Instr.index 126 (.agg #[.string ⟨#[73, 100, 101, 110, 116, 105, 116, 121]⟩, .string ⟨#[78, 101, 103]⟩, .string ⟨#[65, 98, 115]⟩, .string ⟨#[78, 111, 116]⟩, .string ⟨#[82, 101, 108, 117]⟩, .string ⟨#[83, 113, 114, 116]⟩, .string ⟨#[70, 108, 111, 111, 114]⟩, .string ⟨#[69, 120, 112]⟩, .string ⟨#[83, 105, 103, 109, 111, 105, 100]⟩, .string ⟨#[84, 97, 110, 104]⟩]) (.int .i64 4)).run Tryz.prog W = .ok (.string ⟨#[82, 101, 108, 117]⟩) W := fun _ => by kernel_rfl
      by_cases h : (([82, 101, 108, 117] : List UInt8) == s.toList) = true
      · have H := hide h
        go_wp2
        go_ret
        exact ⟨by have h1 := H.out; simp [isOne, ones, eq_of_beq h1], hg⟩
      · have h' : (([82, 101, 108, 117] : List UInt8) == s.toList) = false := by simpa using h
        have H := hide h'
        clear h
        go_wp2
        go_roundw
        case rel => exact ⟨hg, 5, by omega, by go_num, any_step HNO.out rfl H.out⟩
        case measure => simp [intOf]
    · have ix : ∀ W, (Instr.index 126 (.agg #[.string ⟨#[73, 100, 101, 110, 116, 105, 116, 121]⟩, .string ⟨#[78, 101, 103]⟩, .string ⟨#[65, 98, 115]⟩, .string ⟨#[78, 111, 116]⟩, .string ⟨#[82, 101, 108, 117]⟩, .string ⟨#[83, 113, 114, 116]⟩, .string ⟨#[70, 108, 111, 111, 114]⟩, .string ⟨#[69, 120, 112]⟩, .string ⟨#[83, 105, 103, 109, 111, 105, 100]⟩, .string ⟨#[84, 97, 110, 104]⟩]) (.int .i64 5)).run Tryz.prog W = .ok (.string ⟨#[83, 113, 114, 116]⟩) W := fun _ => by kernel_rfl
      by_cases h : (([83, 113, 114, 116] : List UInt8) == s.toList) = true
      · have H := hide h
        go_wp2
        go_ret
        exact ⟨by have h1 := H.out; simp [isOne, ones, eq_of_beq h1], hg⟩
      · have h' : (([83, 113, 114, 116] : List UInt8) == s.toList) = false := by simpa using h
        have H := hide h'
        clear h
        go_wp2
        go_roundw
        case rel => exact ⟨hg, 6, by omega, by go_num, any_step HNO.out rfl H.out⟩
        case measure => simp [intOf]
    · have ix : ∀ W, (Instr.index 126 (.agg #[.string ⟨#[73, 100, 101, 110, 116, 105, 116, 121]⟩, .string ⟨#[78, 101, 103]⟩, .string ⟨#[65, 98, 115]⟩, .string ⟨#[78, 111, 116]⟩, .string ⟨#[82, 101, 108, 117]⟩, .string ⟨#[83, 113, 114, 116]⟩, .string ⟨#[70, 108, 111, 111, 114]⟩, .string ⟨#[69, 120, 112]⟩, .string ⟨#[83, 105, 103, 109, 111, 105, 100]⟩, .string ⟨#[84, 97, 110, 104]⟩]) (.int .i64 6)).run Tryz.prog W = .ok (.string ⟨#[70, 108, 111, 111, 114]⟩) W := fun _ => by kernel_rfl
      by_cases h : (([70, 108, 111, 111, 114] : List UInt8) == s.toList) = true
      · have H := hide h
        go_wp2
        go_ret
        exact ⟨by have h1 := H.out; simp [isOne, ones, eq_of_beq h1], hg⟩
      · have h' : (([70, 108, 111, 111, 114] : List UInt8) == s.toList) = false := by simpa using h
        have H := hide h'
        clear h
        go_wp2
        go_roundw
        case rel => exact ⟨hg, 7, by omega, by go_num, any_step HNO.out rfl H.out⟩
        case measure => simp [intOf]
    · have ix : ∀ W, (Instr.index 126 (.agg #[.string ⟨#[73, 100, 101, 110, 116, 105, 116, 121]⟩, .string ⟨#[78, 101, 103]⟩, .string ⟨#[65, 98, 115]⟩, .string ⟨#[78, 111, 116]⟩, .string ⟨#[82, 101, 108, 117]⟩, .string ⟨#[83, 113, 114, 116]⟩, .string ⟨#[70, 108, 111, 111, 114]⟩, .string ⟨#[69, 120, 112]⟩, .string ⟨#[83, 105, 103, 109, 111, 105, 100]⟩, .string ⟨#[84, 97, 110, 104]⟩]) (.int .i64 7)).run Tryz.prog W = .ok (.string ⟨#[69, 120, 112]⟩) W := fun _ => by kernel_rfl
      by_cases h : (([69, 120, 112] : List UInt8) == s.toList) = true
      · have H := hide h
        go_wp2
        go_ret
        exact ⟨by have h1 := H.out; simp [isOne, ones, eq_of_beq h1], hg⟩
      · have h' : (([69, 120, 112] : List UInt8) == s.toList) = false := by simpa using h
        have H := hide h'
        clear h
        go_wp2
        go_roundw
        case rel => exact ⟨hg, 8, by omega, by go_num, any_step HNO.out rfl H.out⟩
        case measure => simp [intOf]
    · have ix : ∀ W, (Instr.index 126 (.agg #[.string ⟨#[73, 100, 101, 110, 116, 105, 116, 121]⟩, .string ⟨#[78, 101, 103]⟩, .string ⟨#[65, 98, 115]⟩, .string ⟨#[78, 111, 116]⟩, .string ⟨#[82, 101, 108, 117]⟩, .string ⟨#[83, 113, 114, 116]⟩, .string ⟨#[70, 108, 111, 111, 114]⟩, .string ⟨#[69, 120, 112]⟩, .string ⟨#[83, 105, 103, 109, 111, 105, 100]⟩, .string ⟨#[84, 97, 110, 104]⟩]) (.int .i64 8)).run Tryz.prog W = .ok (.string ⟨#[83, 105, 103, 109, 111, 105, 100]⟩) W := fun _ => by kernel_rfl
      by_cases h : (([83, 105, 103, 109, 111, 105, 100] : List UInt8) == s.toList) = true
      · have H := hide h
        go_wp2
        go_ret
        exact ⟨by have h1 := H.out; simp [isOne, ones, eq_of_beq h1], hg⟩
      · have h' : (([83, 105, 103, 109, 111, 105, 100] : List UInt8) == s.toList) = false := by simpa using h
        have H := hide h'
        clear h
        go_wp2
        go_roundw
        case rel => exact ⟨hg, 9, by omega, by go_num, any_step HNO.out rfl H.out⟩
        case measure => simp [intOf]
    · have ix : ∀ W, (Instr.index 126 (.agg #[.string ⟨#[73, 100, 101, 110, 116, 105, 116, 121]⟩, .string ⟨#[78, 101, 103]⟩, .string ⟨#[65, 98, 115]⟩, .string ⟨#[78, 111, 116]⟩, .string ⟨#[82, 101, 108, 117]⟩, .string ⟨#[83, 113, 114, 116]⟩, .string ⟨#[70, 108, 111, 111, 114]⟩, .string ⟨#[69, 120, 112]⟩, .string ⟨#[83, 105, 103, 109, 111, 105, 100]⟩, .string ⟨#[84, 97, 110, 104]⟩]) (.int .i64 9)).run Tryz.prog W = .ok (.string ⟨#[84, 97, 110, 104]⟩) W := fun _ => by kernel_rfl
      by_cases h : (([84, 97, 110, 104] : List UInt8) == s.toList) = true
      · have H := hide h
        go_wp2
        go_ret
        exact ⟨by have h1 := H.out; simp [isOne, ones, eq_of_beq h1], hg⟩
      · have h' : (([84, 97, 110, 104] : List UInt8) == s.toList) = false := by simpa using h
        have H := hide h'
        clear h
        go_wp2
        go_roundw
        case rel => exact ⟨hg, 10, by omega, by go_num, any_step HNO.out rfl H.out⟩
        case measure => simp [intOf]
    · go_wp2
      go_ret
      exact ⟨by have h1 := HNO.out; rw [show isOne s = (ones.take 10).any (fun n => n == s.toList) from rfl, h1]; rfl, hg⟩

end Go.Proofs.YtabddmiffcnnjaaGreatDoor
