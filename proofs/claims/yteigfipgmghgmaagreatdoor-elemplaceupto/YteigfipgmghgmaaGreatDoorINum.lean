/- Which operators there are for which types (mkINum.py). -/
import Derived.Test.YteigfipgmghgmaaGreatDoorIHelp
import Derived.Test.YteigfipgmghgmaaGreatDoorNuWalkK3
namespace Go.Proofs.YteigfipgmghgmaaGreatDoor
open Go.RowKit

def names1 : List (List UInt8) := [[73, 100, 101, 110, 116, 105, 116, 121], [78, 101, 103], [65, 98, 115], [78, 111, 116], [82, 101, 108, 117], [83, 113, 114, 116], [70, 108, 111, 111, 114], [69, 120, 112], [83, 105, 103, 109, 111, 105, 100], [84, 97, 110, 104]]
def names2 : List (List UInt8) := [[65, 100, 100], [83, 117, 98], [77, 117, 108], [68, 105, 118], [77, 97, 120], [77, 105, 110], [65, 110, 100], [79, 114], [88, 111, 114], [69, 113, 117, 97, 108], [76, 101, 115, 115], [71, 114, 101, 97, 116, 101, 114]]

/-- Is there an operator of one for a type? -/
def oneOK (op : List UInt8) (t : Int) : Bool := op == [73, 100, 101, 110, 116, 105, 116, 121] || (t == 1 && [[78, 101, 103], [65, 98, 115], [82, 101, 108, 117], [83, 113, 114, 116], [70, 108, 111, 111, 114], [69, 120, 112], [83, 105, 103, 109, 111, 105, 100], [84, 97, 110, 104]].contains op) || (t == 9 && op == [78, 111, 116]) || ((t == 6 || t == 7) && [[78, 101, 103], [65, 98, 115]].contains op)

/-- Is there an operator of two for a type? -/
def twoOK (op : List UInt8) (t : Int) : Bool := (t == 9 && [[65, 110, 100], [79, 114], [88, 111, 114], [69, 113, 117, 97, 108]].contains op) || ((t == 1 || t == 6 || t == 7) && [[65, 100, 100], [83, 117, 98], [77, 117, 108], [68, 105, 118], [77, 97, 120], [77, 105, 110], [69, 113, 117, 97, 108], [76, 101, 115, 115], [71, 114, 101, 97, 116, 101, 114]].contains op)

/-- Behind an operator of one at the element 1. -/
def Opd (w : World) (c : Int) (e : Ending) (w' : World) : Prop := ∃ z, e = .returned (.tuple #[.int .i64 z, .int .i64 c]) ∧ w.grownBy w' none

theorem opd_same {w : World} {z c d : Int} (h : c = d) : ∀ e w', (e = Ending.returned (.tuple #[.int .i64 z, .int .i64 c]) ∧ w' = w) → Opd w d e w' := by
  rintro e w' ⟨rfl, rfl⟩
  exact ⟨z, by rw [h], grown_refl _⟩

theorem opd_drew {w : World} {z c d : Int} (h : c = d) : ∀ e w', (e = Ending.returned (.tuple #[.int .i64 z, .int .i64 c]) ∧ ∃ n, w' = w.drewN n) → Opd w d e w' := by
  rintro e w' ⟨rfl, n, rfl⟩
  exact ⟨z, by rw [h], ⟨rfl, rfl, rfl, Nat.le_refl _, fun k hk hn => rfl⟩⟩

theorem opd_round {w : World} : ∀ e w', (∃ r n, r < 4294967296 ∧ e = Ending.returned (.tuple #[.int .i64 (Nu.tob r), .int .i64 0]) ∧ w' = w.drewN n) → Opd w 0 e w' := by
  rintro e w' ⟨r, n, -, rfl, rfl⟩
  exact ⟨_, rfl, ⟨rfl, rfl, rfl, Nat.le_refl _, fun k hk hn => rfl⟩⟩

theorem typ_cases {t : Int} (h : isTypeP t = true) : t = 1 ∨ t = 6 ∨ t = 7 ∨ t = 9 := by
  simpa [isTypeP, or_assoc] using h

theorem one_Identity (t : Int) (ht : isTypeP t = true) (w : World) : Calls Tryz.prog 29 #[.string ⟨#[73, 100, 101, 110, 116, 105, 116, 121]⟩, .int .i64 t, .int .i64 1] w (Opd w (if oneOK [73, 100, 101, 110, 116, 105, 116, 121] t = true then 0 else 1)) := by
  rcases typ_cases ht with rfl | rfl | rfl | rfl
  · exact (Nu.unary0 1 1 w).mono (opd_same (by rw [Nu.un_0 1 1 (by decide)]; decide))
  · exact (Nu.unary0 6 1 w).mono (opd_same (by rw [Nu.un_0 6 1 (by decide)]; decide))
  · exact (Nu.unary0 7 1 w).mono (opd_same (by rw [Nu.un_0 7 1 (by decide)]; decide))
  · exact (Nu.unary0 9 1 w).mono (opd_same (by rw [Nu.un_0 9 1 (by decide)]; decide))

theorem one_Neg (t : Int) (ht : isTypeP t = true) (w : World) : Calls Tryz.prog 29 #[.string ⟨#[78, 101, 103]⟩, .int .i64 t, .int .i64 1] w (Opd w (if oneOK [78, 101, 103] t = true then 0 else 1)) := by
  rcases typ_cases ht with rfl | rfl | rfl | rfl
  · exact (Nu.unary1_1 1 w (by decide)).mono (opd_same (by rw [Nu.un_1 1 1 (by decide) (by decide)]; rfl))
  · exact (Nu.unary1_6 1 w (by decide)).mono (opd_same (by rw [Nu.un_6 1 1 (by decide) (by decide)]; rfl))
  · exact (Nu.unary1_7 1 w (by decide)).mono (opd_same (by rw [Nu.un_7 1 1 (by decide) (by decide)]; rfl))
  · exact (Nu.unary1_9 1 w (by decide)).mono (opd_same (by rw [Nu.un_9 1 1 (by decide) (by decide)]; rfl))

theorem one_Abs (t : Int) (ht : isTypeP t = true) (w : World) : Calls Tryz.prog 29 #[.string ⟨#[65, 98, 115]⟩, .int .i64 t, .int .i64 1] w (Opd w (if oneOK [65, 98, 115] t = true then 0 else 1)) := by
  rcases typ_cases ht with rfl | rfl | rfl | rfl
  · exact (Nu.unary2_1 1 w (by decide)).mono (opd_same (by rw [Nu.un_1 2 1 (by decide) (by decide)]; rfl))
  · exact (Nu.unary2_6 1 w (by decide)).mono (opd_same (by rw [Nu.un_6 2 1 (by decide) (by decide)]; rfl))
  · exact (Nu.unary2_7 1 w (by decide)).mono (opd_same (by rw [Nu.un_7 2 1 (by decide) (by decide)]; rfl))
  · exact (Nu.unary2_9 1 w (by decide)).mono (opd_same (by rw [Nu.un_9 2 1 (by decide) (by decide)]; rfl))

theorem one_Not (t : Int) (ht : isTypeP t = true) (w : World) : Calls Tryz.prog 29 #[.string ⟨#[78, 111, 116]⟩, .int .i64 t, .int .i64 1] w (Opd w (if oneOK [78, 111, 116] t = true then 0 else 1)) := by
  rcases typ_cases ht with rfl | rfl | rfl | rfl
  · exact (Nu.unary3_1 1 w (by decide)).mono (opd_same (by rw [Nu.un_1 3 1 (by decide) (by decide)]; rfl))
  · exact (Nu.unary3_6 1 w (by decide)).mono (opd_same (by rw [Nu.un_6 3 1 (by decide) (by decide)]; rfl))
  · exact (Nu.unary3_7 1 w (by decide)).mono (opd_same (by rw [Nu.un_7 3 1 (by decide) (by decide)]; rfl))
  · exact (Nu.unary3_9 1 w (by decide)).mono (opd_same (by rw [Nu.un_9 3 1 (by decide) (by decide)]; rfl))

theorem one_Relu (t : Int) (ht : isTypeP t = true) (w : World) : Calls Tryz.prog 29 #[.string ⟨#[82, 101, 108, 117]⟩, .int .i64 t, .int .i64 1] w (Opd w (if oneOK [82, 101, 108, 117] t = true then 0 else 1)) := by
  rcases typ_cases ht with rfl | rfl | rfl | rfl
  · exact (Nu.unary4_1 1 w (by decide)).mono (opd_same (by rw [Nu.un_1 4 1 (by decide) (by decide)]; rfl))
  · exact (Nu.unary4_6 1 w (by decide)).mono (opd_same (by rw [Nu.un_6 4 1 (by decide) (by decide)]; rfl))
  · exact (Nu.unary4_7 1 w (by decide)).mono (opd_same (by rw [Nu.un_7 4 1 (by decide) (by decide)]; rfl))
  · exact (Nu.unary4_9 1 w (by decide)).mono (opd_same (by rw [Nu.un_9 4 1 (by decide) (by decide)]; rfl))

theorem one_Sqrt (t : Int) (ht : isTypeP t = true) (w : World) : Calls Tryz.prog 29 #[.string ⟨#[83, 113, 114, 116]⟩, .int .i64 t, .int .i64 1] w (Opd w (if oneOK [83, 113, 114, 116] t = true then 0 else 1)) := by
  rcases typ_cases ht with rfl | rfl | rfl | rfl
  · exact (Nu.unary5_1 1 w (by decide)).mono opd_round
  · exact (Nu.unary5_6 1 w (by decide)).mono (opd_same (by rw [Nu.un_6 5 1 (by decide) (by decide)]; rfl))
  · exact (Nu.unary5_7 1 w (by decide)).mono (opd_same (by rw [Nu.un_7 5 1 (by decide) (by decide)]; rfl))
  · exact (Nu.unary5_9 1 w (by decide)).mono (opd_same (by rw [Nu.un_9 5 1 (by decide) (by decide)]; rfl))

theorem one_Floor (t : Int) (ht : isTypeP t = true) (w : World) : Calls Tryz.prog 29 #[.string ⟨#[70, 108, 111, 111, 114]⟩, .int .i64 t, .int .i64 1] w (Opd w (if oneOK [70, 108, 111, 111, 114] t = true then 0 else 1)) := by
  rcases typ_cases ht with rfl | rfl | rfl | rfl
  · exact (Nu.unary6_1 1 w (by decide)).mono opd_round
  · exact (Nu.unary6_6 1 w (by decide)).mono (opd_same (by rw [Nu.un_6 6 1 (by decide) (by decide)]; rfl))
  · exact (Nu.unary6_7 1 w (by decide)).mono (opd_same (by rw [Nu.un_7 6 1 (by decide) (by decide)]; rfl))
  · exact (Nu.unary6_9 1 w (by decide)).mono (opd_same (by rw [Nu.un_9 6 1 (by decide) (by decide)]; rfl))

theorem one_Exp (t : Int) (ht : isTypeP t = true) (w : World) : Calls Tryz.prog 29 #[.string ⟨#[69, 120, 112]⟩, .int .i64 t, .int .i64 1] w (Opd w (if oneOK [69, 120, 112] t = true then 0 else 1)) := by
  rcases typ_cases ht with rfl | rfl | rfl | rfl
  · exact (Nu.unary7_1 1 w (by decide)).mono opd_round
  · exact (Nu.unary7_6 1 w (by decide)).mono (opd_same (by rw [Nu.un_6 7 1 (by decide) (by decide)]; rfl))
  · exact (Nu.unary7_7 1 w (by decide)).mono (opd_same (by rw [Nu.un_7 7 1 (by decide) (by decide)]; rfl))
  · exact (Nu.unary7_9 1 w (by decide)).mono (opd_same (by rw [Nu.un_9 7 1 (by decide) (by decide)]; rfl))

theorem one_Sigmoid (t : Int) (ht : isTypeP t = true) (w : World) : Calls Tryz.prog 29 #[.string ⟨#[83, 105, 103, 109, 111, 105, 100]⟩, .int .i64 t, .int .i64 1] w (Opd w (if oneOK [83, 105, 103, 109, 111, 105, 100] t = true then 0 else 1)) := by
  rcases typ_cases ht with rfl | rfl | rfl | rfl
  · exact (Nu.unary8_1 1 w (by decide)).mono opd_round
  · exact (Nu.unary8_6 1 w (by decide)).mono (opd_same (by rw [Nu.un_6 8 1 (by decide) (by decide)]; rfl))
  · exact (Nu.unary8_7 1 w (by decide)).mono (opd_same (by rw [Nu.un_7 8 1 (by decide) (by decide)]; rfl))
  · exact (Nu.unary8_9 1 w (by decide)).mono (opd_same (by rw [Nu.un_9 8 1 (by decide) (by decide)]; rfl))

theorem one_Tanh (t : Int) (ht : isTypeP t = true) (w : World) : Calls Tryz.prog 29 #[.string ⟨#[84, 97, 110, 104]⟩, .int .i64 t, .int .i64 1] w (Opd w (if oneOK [84, 97, 110, 104] t = true then 0 else 1)) := by
  rcases typ_cases ht with rfl | rfl | rfl | rfl
  · exact (Nu.unary9_1 1 w (by decide)).mono opd_round
  · exact (Nu.unary9_6 1 w (by decide)).mono (opd_same (by rw [Nu.un_6 9 1 (by decide) (by decide)]; rfl))
  · exact (Nu.unary9_7 1 w (by decide)).mono (opd_same (by rw [Nu.un_7 9 1 (by decide) (by decide)]; rfl))
  · exact (Nu.unary9_9 1 w (by decide)).mono (opd_same (by rw [Nu.un_9 9 1 (by decide) (by decide)]; rfl))

theorem two_Add (t : Int) (ht : isTypeP t = true) (w : World) : Calls Tryz.prog 31 #[.string ⟨#[65, 100, 100]⟩, .int .i64 t, .int .i64 1, .int .i64 1] w (Opd w (if twoOK [65, 100, 100] t = true then 0 else 1)) := by
  rcases typ_cases ht with rfl | rfl | rfl | rfl
  · exact (Nu.binary0 1 1 1 w).mono (opd_drew (by rfl))
  · exact (Nu.binary0 6 1 1 w).mono (opd_drew (by rfl))
  · exact (Nu.binary0 7 1 1 w).mono (opd_drew (by rfl))
  · exact (Nu.binary0 9 1 1 w).mono (opd_drew (by rfl))

theorem two_Sub (t : Int) (ht : isTypeP t = true) (w : World) : Calls Tryz.prog 31 #[.string ⟨#[83, 117, 98]⟩, .int .i64 t, .int .i64 1, .int .i64 1] w (Opd w (if twoOK [83, 117, 98] t = true then 0 else 1)) := by
  rcases typ_cases ht with rfl | rfl | rfl | rfl
  · exact (Nu.binary1 1 1 1 w).mono (opd_drew (by rfl))
  · exact (Nu.binary1 6 1 1 w).mono (opd_drew (by rfl))
  · exact (Nu.binary1 7 1 1 w).mono (opd_drew (by rfl))
  · exact (Nu.binary1 9 1 1 w).mono (opd_drew (by rfl))

theorem two_Mul (t : Int) (ht : isTypeP t = true) (w : World) : Calls Tryz.prog 31 #[.string ⟨#[77, 117, 108]⟩, .int .i64 t, .int .i64 1, .int .i64 1] w (Opd w (if twoOK [77, 117, 108] t = true then 0 else 1)) := by
  rcases typ_cases ht with rfl | rfl | rfl | rfl
  · exact (Nu.binary2 1 1 1 w).mono (opd_drew (by rfl))
  · exact (Nu.binary2 6 1 1 w).mono (opd_drew (by rfl))
  · exact (Nu.binary2 7 1 1 w).mono (opd_drew (by rfl))
  · exact (Nu.binary2 9 1 1 w).mono (opd_drew (by rfl))

theorem two_Div (t : Int) (ht : isTypeP t = true) (w : World) : Calls Tryz.prog 31 #[.string ⟨#[68, 105, 118]⟩, .int .i64 t, .int .i64 1, .int .i64 1] w (Opd w (if twoOK [68, 105, 118] t = true then 0 else 1)) := by
  rcases typ_cases ht with rfl | rfl | rfl | rfl
  · exact (Nu.binary3 1 1 1 w).mono (opd_drew (by rfl))
  · exact (Nu.binary3 6 1 1 w).mono (opd_drew (by rfl))
  · exact (Nu.binary3 7 1 1 w).mono (opd_drew (by rfl))
  · exact (Nu.binary3 9 1 1 w).mono (opd_drew (by rfl))

theorem two_Max (t : Int) (ht : isTypeP t = true) (w : World) : Calls Tryz.prog 31 #[.string ⟨#[77, 97, 120]⟩, .int .i64 t, .int .i64 1, .int .i64 1] w (Opd w (if twoOK [77, 97, 120] t = true then 0 else 1)) := by
  rcases typ_cases ht with rfl | rfl | rfl | rfl
  · exact (Nu.binary4 1 1 1 w).mono (opd_drew (by rfl))
  · exact (Nu.binary4 6 1 1 w).mono (opd_drew (by rfl))
  · exact (Nu.binary4 7 1 1 w).mono (opd_drew (by rfl))
  · exact (Nu.binary4 9 1 1 w).mono (opd_drew (by rfl))

theorem two_Min (t : Int) (ht : isTypeP t = true) (w : World) : Calls Tryz.prog 31 #[.string ⟨#[77, 105, 110]⟩, .int .i64 t, .int .i64 1, .int .i64 1] w (Opd w (if twoOK [77, 105, 110] t = true then 0 else 1)) := by
  rcases typ_cases ht with rfl | rfl | rfl | rfl
  · exact (Nu.binary5 1 1 1 w).mono (opd_drew (by rfl))
  · exact (Nu.binary5 6 1 1 w).mono (opd_drew (by rfl))
  · exact (Nu.binary5 7 1 1 w).mono (opd_drew (by rfl))
  · exact (Nu.binary5 9 1 1 w).mono (opd_drew (by rfl))

theorem two_And (t : Int) (ht : isTypeP t = true) (w : World) : Calls Tryz.prog 31 #[.string ⟨#[65, 110, 100]⟩, .int .i64 t, .int .i64 1, .int .i64 1] w (Opd w (if twoOK [65, 110, 100] t = true then 0 else 1)) := by
  rcases typ_cases ht with rfl | rfl | rfl | rfl
  · exact (Nu.binary6 1 1 1 w).mono (opd_drew (by rfl))
  · exact (Nu.binary6 6 1 1 w).mono (opd_drew (by rfl))
  · exact (Nu.binary6 7 1 1 w).mono (opd_drew (by rfl))
  · exact (Nu.binary6 9 1 1 w).mono (opd_drew (by rfl))

theorem two_Or (t : Int) (ht : isTypeP t = true) (w : World) : Calls Tryz.prog 31 #[.string ⟨#[79, 114]⟩, .int .i64 t, .int .i64 1, .int .i64 1] w (Opd w (if twoOK [79, 114] t = true then 0 else 1)) := by
  rcases typ_cases ht with rfl | rfl | rfl | rfl
  · exact (Nu.binary7 1 1 1 w).mono (opd_drew (by rfl))
  · exact (Nu.binary7 6 1 1 w).mono (opd_drew (by rfl))
  · exact (Nu.binary7 7 1 1 w).mono (opd_drew (by rfl))
  · exact (Nu.binary7 9 1 1 w).mono (opd_drew (by rfl))

theorem two_Xor (t : Int) (ht : isTypeP t = true) (w : World) : Calls Tryz.prog 31 #[.string ⟨#[88, 111, 114]⟩, .int .i64 t, .int .i64 1, .int .i64 1] w (Opd w (if twoOK [88, 111, 114] t = true then 0 else 1)) := by
  rcases typ_cases ht with rfl | rfl | rfl | rfl
  · exact (Nu.binary8 1 1 1 w).mono (opd_drew (by rfl))
  · exact (Nu.binary8 6 1 1 w).mono (opd_drew (by rfl))
  · exact (Nu.binary8 7 1 1 w).mono (opd_drew (by rfl))
  · exact (Nu.binary8 9 1 1 w).mono (opd_drew (by rfl))

theorem two_Equal (t : Int) (ht : isTypeP t = true) (w : World) : Calls Tryz.prog 31 #[.string ⟨#[69, 113, 117, 97, 108]⟩, .int .i64 t, .int .i64 1, .int .i64 1] w (Opd w (if twoOK [69, 113, 117, 97, 108] t = true then 0 else 1)) := by
  rcases typ_cases ht with rfl | rfl | rfl | rfl
  · exact (Nu.binary9 1 1 1 w).mono (opd_drew (by rfl))
  · exact (Nu.binary9 6 1 1 w).mono (opd_drew (by rfl))
  · exact (Nu.binary9 7 1 1 w).mono (opd_drew (by rfl))
  · exact (Nu.binary9 9 1 1 w).mono (opd_drew (by rfl))

theorem two_Less (t : Int) (ht : isTypeP t = true) (w : World) : Calls Tryz.prog 31 #[.string ⟨#[76, 101, 115, 115]⟩, .int .i64 t, .int .i64 1, .int .i64 1] w (Opd w (if twoOK [76, 101, 115, 115] t = true then 0 else 1)) := by
  rcases typ_cases ht with rfl | rfl | rfl | rfl
  · exact (Nu.binary10 1 1 1 w).mono (opd_drew (by rfl))
  · exact (Nu.binary10 6 1 1 w).mono (opd_drew (by rfl))
  · exact (Nu.binary10 7 1 1 w).mono (opd_drew (by rfl))
  · exact (Nu.binary10 9 1 1 w).mono (opd_drew (by rfl))

theorem two_Greater (t : Int) (ht : isTypeP t = true) (w : World) : Calls Tryz.prog 31 #[.string ⟨#[71, 114, 101, 97, 116, 101, 114]⟩, .int .i64 t, .int .i64 1, .int .i64 1] w (Opd w (if twoOK [71, 114, 101, 97, 116, 101, 114] t = true then 0 else 1)) := by
  rcases typ_cases ht with rfl | rfl | rfl | rfl
  · exact (Nu.binary11 1 1 1 w).mono (opd_drew (by rfl))
  · exact (Nu.binary11 6 1 1 w).mono (opd_drew (by rfl))
  · exact (Nu.binary11 7 1 1 w).mono (opd_drew (by rfl))
  · exact (Nu.binary11 9 1 1 w).mono (opd_drew (by rfl))

theorem one_any (op : ByteArray) (t : Int) (h : op.toList ∈ names1) (ht : isTypeP t = true) (w : World) : Calls Tryz.prog 29 #[.string op, .int .i64 t, .int .i64 1] w (Opd w (if oneOK op.toList t = true then 0 else 1)) := by
  have e : op = B op.toList := by rw [bytes_toList, B_self]
  simp only [names1, List.mem_cons, List.not_mem_nil, or_false] at h
  rcases h with h | h | h | h | h | h | h | h | h | h
  · rw [h, show op = ⟨#[73, 100, 101, 110, 116, 105, 116, 121]⟩ from e.trans (by rw [h]; rfl)]; exact one_Identity t ht w
  · rw [h, show op = ⟨#[78, 101, 103]⟩ from e.trans (by rw [h]; rfl)]; exact one_Neg t ht w
  · rw [h, show op = ⟨#[65, 98, 115]⟩ from e.trans (by rw [h]; rfl)]; exact one_Abs t ht w
  · rw [h, show op = ⟨#[78, 111, 116]⟩ from e.trans (by rw [h]; rfl)]; exact one_Not t ht w
  · rw [h, show op = ⟨#[82, 101, 108, 117]⟩ from e.trans (by rw [h]; rfl)]; exact one_Relu t ht w
  · rw [h, show op = ⟨#[83, 113, 114, 116]⟩ from e.trans (by rw [h]; rfl)]; exact one_Sqrt t ht w
  · rw [h, show op = ⟨#[70, 108, 111, 111, 114]⟩ from e.trans (by rw [h]; rfl)]; exact one_Floor t ht w
  · rw [h, show op = ⟨#[69, 120, 112]⟩ from e.trans (by rw [h]; rfl)]; exact one_Exp t ht w
  · rw [h, show op = ⟨#[83, 105, 103, 109, 111, 105, 100]⟩ from e.trans (by rw [h]; rfl)]; exact one_Sigmoid t ht w
  · rw [h, show op = ⟨#[84, 97, 110, 104]⟩ from e.trans (by rw [h]; rfl)]; exact one_Tanh t ht w

theorem two_any (op : ByteArray) (t : Int) (h : op.toList ∈ names2) (ht : isTypeP t = true) (w : World) : Calls Tryz.prog 31 #[.string op, .int .i64 t, .int .i64 1, .int .i64 1] w (Opd w (if twoOK op.toList t = true then 0 else 1)) := by
  have e : op = B op.toList := by rw [bytes_toList, B_self]
  simp only [names2, List.mem_cons, List.not_mem_nil, or_false] at h
  rcases h with h | h | h | h | h | h | h | h | h | h | h | h
  · rw [h, show op = ⟨#[65, 100, 100]⟩ from e.trans (by rw [h]; rfl)]; exact two_Add t ht w
  · rw [h, show op = ⟨#[83, 117, 98]⟩ from e.trans (by rw [h]; rfl)]; exact two_Sub t ht w
  · rw [h, show op = ⟨#[77, 117, 108]⟩ from e.trans (by rw [h]; rfl)]; exact two_Mul t ht w
  · rw [h, show op = ⟨#[68, 105, 118]⟩ from e.trans (by rw [h]; rfl)]; exact two_Div t ht w
  · rw [h, show op = ⟨#[77, 97, 120]⟩ from e.trans (by rw [h]; rfl)]; exact two_Max t ht w
  · rw [h, show op = ⟨#[77, 105, 110]⟩ from e.trans (by rw [h]; rfl)]; exact two_Min t ht w
  · rw [h, show op = ⟨#[65, 110, 100]⟩ from e.trans (by rw [h]; rfl)]; exact two_And t ht w
  · rw [h, show op = ⟨#[79, 114]⟩ from e.trans (by rw [h]; rfl)]; exact two_Or t ht w
  · rw [h, show op = ⟨#[88, 111, 114]⟩ from e.trans (by rw [h]; rfl)]; exact two_Xor t ht w
  · rw [h, show op = ⟨#[69, 113, 117, 97, 108]⟩ from e.trans (by rw [h]; rfl)]; exact two_Equal t ht w
  · rw [h, show op = ⟨#[76, 101, 115, 115]⟩ from e.trans (by rw [h]; rfl)]; exact two_Less t ht w
  · rw [h, show op = ⟨#[71, 114, 101, 97, 116, 101, 114]⟩ from e.trans (by rw [h]; rfl)]; exact two_Greater t ht w

theorem mustone_any (op : ByteArray) (t : Int) (h : op.toList ∈ names1) (ht : isTypeP t = true) (w : World) : Calls Tryz.prog 77 #[.string op, .int .i64 t] w (Ended w (mustP (oneOK op.toList t)) fun _ v _ => v = .tuple #[]) := by
  have C := hide (one_any op t h ht w)
  cases hx : oneOK op.toList t with
  | true =>
    rw [hx, if_pos rfl] at C
    clear hx h ht
    go_enter Tryz.func77, Tryz.ntmps77
    go_wp2_with (first | (go_at_call 29; refine C.out.mono ?_; rintro e w' ⟨z, rfl, hg⟩) | (go_at_call 71; refine (must_yes _).mono ?_; rintro e w' ⟨rfl, rfl⟩))
    go_end0
    exact ⟨hg, _, rfl, rfl⟩
  | false =>
    rw [hx, if_neg (by decide)] at C
    clear hx h ht
    go_enter Tryz.func77, Tryz.ntmps77
    go_wp2_with (first | (go_at_call 29; refine C.out.mono ?_; rintro e w' ⟨z, rfl, hg⟩) | (go_at_call 71; refine (must_no _).mono ?_; rintro e w' ⟨rfl, rfl⟩))
    exact ⟨rfl, hg, rfl⟩

theorem musttwo_any (op : ByteArray) (t : Int) (h : op.toList ∈ names2) (ht : isTypeP t = true) (w : World) : Calls Tryz.prog 106 #[.string op, .int .i64 t] w (Ended w (mustP (twoOK op.toList t)) fun _ v _ => v = .tuple #[]) := by
  have C := hide (two_any op t h ht w)
  cases hx : twoOK op.toList t with
  | true =>
    rw [hx, if_pos rfl] at C
    clear hx h ht
    go_enter Tryz.func106, Tryz.ntmps106
    go_wp2_with (first | (go_at_call 31; refine C.out.mono ?_; rintro e w' ⟨z, rfl, hg⟩) | (go_at_call 71; refine (must_yes _).mono ?_; rintro e w' ⟨rfl, rfl⟩))
    go_end0
    exact ⟨hg, _, rfl, rfl⟩
  | false =>
    rw [hx, if_neg (by decide)] at C
    clear hx h ht
    go_enter Tryz.func106, Tryz.ntmps106
    go_wp2_with (first | (go_at_call 31; refine C.out.mono ?_; rintro e w' ⟨z, rfl, hg⟩) | (go_at_call 71; refine (must_no _).mono ?_; rintro e w' ⟨rfl, rfl⟩))
    exact ⟨rfl, hg, rfl⟩

end Go.Proofs.YteigfipgmghgmaaGreatDoor
