/- A part. -/
import Derived.Test.YtkefdkboejimeaaGreatDoorPartAQ
import Derived.Test.YtkefdkboejimeaaGreatDoorPartAU
namespace Go.Proofs.YtkefdkboejimeaaGreatDoor
open Go.RowKit
def jgF : List (List UInt8) := [[73, 100, 101, 110, 116, 105, 116, 121], [78, 101, 103], [65, 98, 115], [78, 111, 116], [82, 101, 108, 117], [83, 113, 114, 116], [70, 108, 111, 111, 114], [69, 120, 112], [83, 105, 103, 109, 111, 105, 100], [84, 97, 110, 104]]
def names2 : List (List UInt8) := [[65, 100, 100], [83, 117, 98], [77, 117, 108], [68, 105, 118], [77, 97, 120], [77, 105, 110], [65, 110, 100], [79, 114], [88, 111, 114], [69, 113, 117, 97, 108], [76, 101, 115, 115], [71, 114, 101, 97, 116, 101, 114]]
def jc9 (op : List UInt8) (t : Int) : Bool := op == [73, 100, 101, 110, 116, 105, 116, 121] || (t == 1 && [[78, 101, 103], [65, 98, 115], [82, 101, 108, 117], [83, 113, 114, 116], [70, 108, 111, 111, 114], [69, 120, 112], [83, 105, 103, 109, 111, 105, 100], [84, 97, 110, 104]].contains op) || (t == 9 && op == [78, 111, 116]) || ((t == 6 || t == 7) && [[78, 101, 103], [65, 98, 115]].contains op)
def Opd (w : World) (c : Int) (e : Ending) (w' : World) : Prop := ∃ z, e = .returned (.tuple #[.int .i64 z, .int .i64 c]) ∧ w.grownBy w' none
theorem jaE {w : World} {z c d : Int} (h : c = d) : ∀ e w', (e = Ending.returned (.tuple #[.int .i64 z, .int .i64 c]) ∧ w' = w) → Opd w d e w' := by
 rintro e w' ⟨rfl, rfl⟩
 exact ⟨z, by rw [h], jaf _⟩
theorem jcR {w : World} : ∀ e w', (∃ r n, r < 4294967296 ∧ e = Ending.returned (.tuple #[.int .i64 (Nu.tob r), .int .i64 0]) ∧ w' = w.drewN n) → Opd w 0 e w' := by
 rintro e w' ⟨r, n, -, rfl, rfl⟩
 exact ⟨_, rfl, ⟨rfl, rfl, rfl, Nat.le_refl _, fun k hk hn => rfl⟩⟩
theorem jbv {t : Int} (h : jaV t = true) : t = 1 ∨ t = 6 ∨ t = 7 ∨ t = 9 := by
 simpa [jaV, or_assoc] using h
theorem jgG (t : Int) (ht : jaV t = true) (w : World) : Calls Tryz.prog 162 #[.string ⟨#[73, 100, 101, 110, 116, 105, 116, 121]⟩, .int .i64 t, .int .i64 1] w (Opd w (if jc9 [73, 100, 101, 110, 116, 105, 116, 121] t = true then 0 else 1)) := by
 rcases jbv ht with rfl | rfl | rfl | rfl
 ·exact (Nu.unary0 1 1 w).mono (jaE (by rw [Nu.un_0 1 1 (by decide)]; decide))
 ·exact (Nu.unary0 6 1 w).mono (jaE (by rw [Nu.un_0 6 1 (by decide)]; decide))
 ·exact (Nu.unary0 7 1 w).mono (jaE (by rw [Nu.un_0 7 1 (by decide)]; decide))
 ·exact (Nu.unary0 9 1 w).mono (jaE (by rw [Nu.un_0 9 1 (by decide)]; decide))
theorem jo3 (t : Int) (ht : jaV t = true) (w : World) : Calls Tryz.prog 162 #[.string ⟨#[78, 101, 103]⟩, .int .i64 t, .int .i64 1] w (Opd w (if jc9 [78, 101, 103] t = true then 0 else 1)) := by
 rcases jbv ht with rfl | rfl | rfl | rfl
 ·exact (Nu.unary1_1 1 w (by decide)).mono (jaE (by rw [Nu.un_1 1 1 (by decide) (by decide)]; rfl))
 ·exact (Nu.unary1_6 1 w (by decide)).mono (jaE (by rw [Nu.un_6 1 1 (by decide) (by decide)]; rfl))
 ·exact (Nu.unary1_7 1 w (by decide)).mono (jaE (by rw [Nu.un_7 1 1 (by decide) (by decide)]; rfl))
 ·exact (Nu.unary1_9 1 w (by decide)).mono (jaE (by rw [Nu.un_9 1 1 (by decide) (by decide)]; rfl))
theorem jo4 (t : Int) (ht : jaV t = true) (w : World) : Calls Tryz.prog 162 #[.string ⟨#[65, 98, 115]⟩, .int .i64 t, .int .i64 1] w (Opd w (if jc9 [65, 98, 115] t = true then 0 else 1)) := by
 rcases jbv ht with rfl | rfl | rfl | rfl
 ·exact (Nu.unary2_1 1 w (by decide)).mono (jaE (by rw [Nu.un_1 2 1 (by decide) (by decide)]; rfl))
 ·exact (Nu.unary2_6 1 w (by decide)).mono (jaE (by rw [Nu.un_6 2 1 (by decide) (by decide)]; rfl))
 ·exact (Nu.unary2_7 1 w (by decide)).mono (jaE (by rw [Nu.un_7 2 1 (by decide) (by decide)]; rfl))
 ·exact (Nu.unary2_9 1 w (by decide)).mono (jaE (by rw [Nu.un_9 2 1 (by decide) (by decide)]; rfl))
theorem jo5 (t : Int) (ht : jaV t = true) (w : World) : Calls Tryz.prog 162 #[.string ⟨#[78, 111, 116]⟩, .int .i64 t, .int .i64 1] w (Opd w (if jc9 [78, 111, 116] t = true then 0 else 1)) := by
 rcases jbv ht with rfl | rfl | rfl | rfl
 ·exact (Nu.unary3_1 1 w (by decide)).mono (jaE (by rw [Nu.un_1 3 1 (by decide) (by decide)]; rfl))
 ·exact (Nu.unary3_6 1 w (by decide)).mono (jaE (by rw [Nu.un_6 3 1 (by decide) (by decide)]; rfl))
 ·exact (Nu.unary3_7 1 w (by decide)).mono (jaE (by rw [Nu.un_7 3 1 (by decide) (by decide)]; rfl))
 ·exact (Nu.unary3_9 1 w (by decide)).mono (jaE (by rw [Nu.un_9 3 1 (by decide) (by decide)]; rfl))
theorem jnb (t : Int) (ht : jaV t = true) (w : World) : Calls Tryz.prog 162 #[.string ⟨#[82, 101, 108, 117]⟩, .int .i64 t, .int .i64 1] w (Opd w (if jc9 [82, 101, 108, 117] t = true then 0 else 1)) := by
 rcases jbv ht with rfl | rfl | rfl | rfl
 ·exact (Nu.unary4_1 1 w (by decide)).mono (jaE (by rw [Nu.un_1 4 1 (by decide) (by decide)]; rfl))
 ·exact (Nu.unary4_6 1 w (by decide)).mono (jaE (by rw [Nu.un_6 4 1 (by decide) (by decide)]; rfl))
 ·exact (Nu.unary4_7 1 w (by decide)).mono (jaE (by rw [Nu.un_7 4 1 (by decide) (by decide)]; rfl))
 ·exact (Nu.unary4_9 1 w (by decide)).mono (jaE (by rw [Nu.un_9 4 1 (by decide) (by decide)]; rfl))
theorem jnc (t : Int) (ht : jaV t = true) (w : World) : Calls Tryz.prog 162 #[.string ⟨#[83, 113, 114, 116]⟩, .int .i64 t, .int .i64 1] w (Opd w (if jc9 [83, 113, 114, 116] t = true then 0 else 1)) := by
 rcases jbv ht with rfl | rfl | rfl | rfl
 ·exact (Nu.unary5_1 1 w (by decide)).mono jcR
 ·exact (Nu.unary5_6 1 w (by decide)).mono (jaE (by rw [Nu.un_6 5 1 (by decide) (by decide)]; rfl))
 ·exact (Nu.unary5_7 1 w (by decide)).mono (jaE (by rw [Nu.un_7 5 1 (by decide) (by decide)]; rfl))
 ·exact (Nu.unary5_9 1 w (by decide)).mono (jaE (by rw [Nu.un_9 5 1 (by decide) (by decide)]; rfl))
theorem jk2 (t : Int) (ht : jaV t = true) (w : World) : Calls Tryz.prog 162 #[.string ⟨#[70, 108, 111, 111, 114]⟩, .int .i64 t, .int .i64 1] w (Opd w (if jc9 [70, 108, 111, 111, 114] t = true then 0 else 1)) := by
 rcases jbv ht with rfl | rfl | rfl | rfl
 ·exact (Nu.unary6_1 1 w (by decide)).mono jcR
 ·exact (Nu.unary6_6 1 w (by decide)).mono (jaE (by rw [Nu.un_6 6 1 (by decide) (by decide)]; rfl))
 ·exact (Nu.unary6_7 1 w (by decide)).mono (jaE (by rw [Nu.un_7 6 1 (by decide) (by decide)]; rfl))
 ·exact (Nu.unary6_9 1 w (by decide)).mono (jaE (by rw [Nu.un_9 6 1 (by decide) (by decide)]; rfl))
theorem jo6 (t : Int) (ht : jaV t = true) (w : World) : Calls Tryz.prog 162 #[.string ⟨#[69, 120, 112]⟩, .int .i64 t, .int .i64 1] w (Opd w (if jc9 [69, 120, 112] t = true then 0 else 1)) := by
 rcases jbv ht with rfl | rfl | rfl | rfl
 ·exact (Nu.unary7_1 1 w (by decide)).mono jcR
 ·exact (Nu.unary7_6 1 w (by decide)).mono (jaE (by rw [Nu.un_6 7 1 (by decide) (by decide)]; rfl))
 ·exact (Nu.unary7_7 1 w (by decide)).mono (jaE (by rw [Nu.un_7 7 1 (by decide) (by decide)]; rfl))
 ·exact (Nu.unary7_9 1 w (by decide)).mono (jaE (by rw [Nu.un_9 7 1 (by decide) (by decide)]; rfl))
theorem jhM (t : Int) (ht : jaV t = true) (w : World) : Calls Tryz.prog 162 #[.string ⟨#[83, 105, 103, 109, 111, 105, 100]⟩, .int .i64 t, .int .i64 1] w (Opd w (if jc9 [83, 105, 103, 109, 111, 105, 100] t = true then 0 else 1)) := by
 rcases jbv ht with rfl | rfl | rfl | rfl
 ·exact (Nu.unary8_1 1 w (by decide)).mono jcR
 ·exact (Nu.unary8_6 1 w (by decide)).mono (jaE (by rw [Nu.un_6 8 1 (by decide) (by decide)]; rfl))
 ·exact (Nu.unary8_7 1 w (by decide)).mono (jaE (by rw [Nu.un_7 8 1 (by decide) (by decide)]; rfl))
 ·exact (Nu.unary8_9 1 w (by decide)).mono (jaE (by rw [Nu.un_9 8 1 (by decide) (by decide)]; rfl))
theorem jnd (t : Int) (ht : jaV t = true) (w : World) : Calls Tryz.prog 162 #[.string ⟨#[84, 97, 110, 104]⟩, .int .i64 t, .int .i64 1] w (Opd w (if jc9 [84, 97, 110, 104] t = true then 0 else 1)) := by
 rcases jbv ht with rfl | rfl | rfl | rfl
 ·exact (Nu.unary9_1 1 w (by decide)).mono jcR
 ·exact (Nu.unary9_6 1 w (by decide)).mono (jaE (by rw [Nu.un_6 9 1 (by decide) (by decide)]; rfl))
 ·exact (Nu.unary9_7 1 w (by decide)).mono (jaE (by rw [Nu.un_7 9 1 (by decide) (by decide)]; rfl))
 ·exact (Nu.unary9_9 1 w (by decide)).mono (jaE (by rw [Nu.un_9 9 1 (by decide) (by decide)]; rfl))
theorem jo7 (op : ByteArray) (t : Int) (h : op.toList ∈ jgF) (ht : jaV t = true) (w : World) : Calls Tryz.prog 162 #[.string op, .int .i64 t, .int .i64 1] w (Opd w (if jc9 op.toList t = true then 0 else 1)) := by
 have e : op = B op.toList := by rw [jaj, jjY]
 simp only [jgF, List.mem_cons, List.not_mem_nil, or_false] at h
 rcases h with h | h | h | h | h | h | h | h | h | h
 ·rw [h, show op = ⟨#[73, 100, 101, 110, 116, 105, 116, 121]⟩ from e.trans (by rw [h]; rfl)]; exact jgG t ht w
 ·rw [h, show op = ⟨#[78, 101, 103]⟩ from e.trans (by rw [h]; rfl)]; exact jo3 t ht w
 ·rw [h, show op = ⟨#[65, 98, 115]⟩ from e.trans (by rw [h]; rfl)]; exact jo4 t ht w
 ·rw [h, show op = ⟨#[78, 111, 116]⟩ from e.trans (by rw [h]; rfl)]; exact jo5 t ht w
 ·rw [h, show op = ⟨#[82, 101, 108, 117]⟩ from e.trans (by rw [h]; rfl)]; exact jnb t ht w
 ·rw [h, show op = ⟨#[83, 113, 114, 116]⟩ from e.trans (by rw [h]; rfl)]; exact jnc t ht w
 ·rw [h, show op = ⟨#[70, 108, 111, 111, 114]⟩ from e.trans (by rw [h]; rfl)]; exact jk2 t ht w
 ·rw [h, show op = ⟨#[69, 120, 112]⟩ from e.trans (by rw [h]; rfl)]; exact jo6 t ht w
 ·rw [h, show op = ⟨#[83, 105, 103, 109, 111, 105, 100]⟩ from e.trans (by rw [h]; rfl)]; exact jhM t ht w
 ·rw [h, show op = ⟨#[84, 97, 110, 104]⟩ from e.trans (by rw [h]; rfl)]; exact jnd t ht w
theorem jhN (op : ByteArray) (t : Int) (h : op.toList ∈ jgF) (ht : jaV t = true) (w : World) : Calls Tryz.prog 124 #[.string op, .int .i64 t] w (jbj w (jaz (jc9 op.toList t)) fun _ v _ => v = .tuple #[]) := by
 have C := jae (jo7 op t h ht w)
 cases hx : jc9 op.toList t with
 | true =>
  rw [hx, if_pos rfl] at C
  clear hx h ht
  go_enter Tryz.func124, Tryz.ntmps124
  go_wp2_with (first | (go_at_call 162; refine C.out.mono ?_; rintro e w' ⟨z, rfl, hg⟩) | (go_at_call 118; refine (jaT _).mono ?_; rintro e w' ⟨rfl, rfl⟩))
  go_end0
  exact ⟨hg, _, rfl, rfl⟩
 | false =>
  rw [hx, if_neg (by decide)] at C
  clear hx h ht
  go_enter Tryz.func124, Tryz.ntmps124
  go_wp2_with (first | (go_at_call 162; refine C.out.mono ?_; rintro e w' ⟨z, rfl, hg⟩) | (go_at_call 118; refine (ja2 _).mono ?_; rintro e w' ⟨rfl, rfl⟩))
  exact ⟨rfl, hg, rfl⟩
end Go.Proofs.YtkefdkboejimeaaGreatDoor
namespace Go.Proofs.YtkefdkboejimeaaGreatDoor
open Go.RowKit
abbrev jbQ : Sl := ⟨none, 0, 0⟩
theorem jej {α : Type} {te : TypeId} {size bytes : Nat} {f : α → List Value} (hf : ∀ a, (f a).length = size) {w : World} {B : Nat} {xs : List α} {cur : Array Value} (hb : w.heap[B]? = some (.cells cur te (0, 0))) (hc : cur.toList = xs.flatMap f) (hs : cur.size = xs.length * size) (hl : xs.length * bytes ≤ 140737488351232) (hm : xs.length ≤ 1048576) :
    IsL bytes size f w (.slice (some ⟨B, 0, none⟩) xs.length xs.length) xs := by
     refine jaU.isL (te := te) (base := 0) hf ?_ hl
     refine ⟨by rw [← hc, Array.length_toList, hs], Or.inr ⟨B, xs.length, cur, rfl, Nat.zero_le _, hb, Nat.le_refl _, by simp only [maxLen]; omega, hs, ?_⟩⟩
     rw [hc, List.take_of_length_le (by rw [← hc, Array.length_toList, hs]; exact Nat.le_refl _)]
theorem jiA (w : World) : IsInts w (.slice none 0 0) [] := ⟨none, 0, rfl, by simp, by simp, by simp, fun _ => ⟨rfl, rfl⟩, fun h => by simp at h, fun z hz => by simp at hz⟩
end Go.Proofs.YtkefdkboejimeaaGreatDoor
