/- Joined texts: INum, GLit, NSameN. -/
import Derived.Test.YtkefdkboejimeaaGreatDoorQartAS
import Derived.Test.YtkefdkboejimeaaGreatDoorQartAW
namespace Go.Proofs.YtkefdkboejimeaaGreatDoor

open Go.RowKit

def names1 : List (List UInt8) := [[73, 100, 101, 110, 116, 105, 116, 121], [78, 101, 103], [65, 98, 115], [78, 111, 116], [82, 101, 108, 117], [83, 113, 114, 116], [70, 108, 111, 111, 114], [69, 120, 112], [83, 105, 103, 109, 111, 105, 100], [84, 97, 110, 104]]
def names2 : List (List UInt8) := [[65, 100, 100], [83, 117, 98], [77, 117, 108], [68, 105, 118], [77, 97, 120], [77, 105, 110], [65, 110, 100], [79, 114], [88, 111, 114], [69, 113, 117, 97, 108], [76, 101, 115, 115], [71, 114, 101, 97, 116, 101, 114]]

def oneOK (op : List UInt8) (t : Int) : Bool := op == [73, 100, 101, 110, 116, 105, 116, 121] || (t == 1 && [[78, 101, 103], [65, 98, 115], [82, 101, 108, 117], [83, 113, 114, 116], [70, 108, 111, 111, 114], [69, 120, 112], [83, 105, 103, 109, 111, 105, 100], [84, 97, 110, 104]].contains op) || (t == 9 && op == [78, 111, 116]) || ((t == 6 || t == 7) && [[78, 101, 103], [65, 98, 115]].contains op)

def Opd (w : World) (c : Int) (e : Ending) (w' : World) : Prop := ∃ z, e = .returned (.tuple #[.int .i64 z, .int .i64 c]) ∧ w.grownBy w' none

theorem opd_same {w : World} {z c d : Int} (h : c = d) : ∀ e w', (e = Ending.returned (.tuple #[.int .i64 z, .int .i64 c]) ∧ w' = w) → Opd w d e w' := by
  rintro e w' ⟨rfl, rfl⟩
  exact ⟨z, by rw [h], grown_refl _⟩

theorem opd_round {w : World} : ∀ e w', (∃ r n, r < 4294967296 ∧ e = Ending.returned (.tuple #[.int .i64 (Nu.tob r), .int .i64 0]) ∧ w' = w.drewN n) → Opd w 0 e w' := by
  rintro e w' ⟨r, n, -, rfl, rfl⟩
  exact ⟨_, rfl, ⟨rfl, rfl, rfl, Nat.le_refl _, fun k hk hn => rfl⟩⟩

theorem typ_cases {t : Int} (h : isTypeP t = true) : t = 1 ∨ t = 6 ∨ t = 7 ∨ t = 9 := by
  simpa [isTypeP, or_assoc] using h

theorem one_Identity (t : Int) (ht : isTypeP t = true) (w : World) : Calls Tryz.prog 162 #[.string ⟨#[73, 100, 101, 110, 116, 105, 116, 121]⟩, .int .i64 t, .int .i64 1] w (Opd w (if oneOK [73, 100, 101, 110, 116, 105, 116, 121] t = true then 0 else 1)) := by
  rcases typ_cases ht with rfl | rfl | rfl | rfl
  · exact (Nu.unary0 1 1 w).mono (opd_same (by rw [Nu.un_0 1 1 (by decide)]; decide))
  · exact (Nu.unary0 6 1 w).mono (opd_same (by rw [Nu.un_0 6 1 (by decide)]; decide))
  · exact (Nu.unary0 7 1 w).mono (opd_same (by rw [Nu.un_0 7 1 (by decide)]; decide))
  · exact (Nu.unary0 9 1 w).mono (opd_same (by rw [Nu.un_0 9 1 (by decide)]; decide))

theorem one_Neg (t : Int) (ht : isTypeP t = true) (w : World) : Calls Tryz.prog 162 #[.string ⟨#[78, 101, 103]⟩, .int .i64 t, .int .i64 1] w (Opd w (if oneOK [78, 101, 103] t = true then 0 else 1)) := by
  rcases typ_cases ht with rfl | rfl | rfl | rfl
  · exact (Nu.unary1_1 1 w (by decide)).mono (opd_same (by rw [Nu.un_1 1 1 (by decide) (by decide)]; rfl))
  · exact (Nu.unary1_6 1 w (by decide)).mono (opd_same (by rw [Nu.un_6 1 1 (by decide) (by decide)]; rfl))
  · exact (Nu.unary1_7 1 w (by decide)).mono (opd_same (by rw [Nu.un_7 1 1 (by decide) (by decide)]; rfl))
  · exact (Nu.unary1_9 1 w (by decide)).mono (opd_same (by rw [Nu.un_9 1 1 (by decide) (by decide)]; rfl))

theorem one_Abs (t : Int) (ht : isTypeP t = true) (w : World) : Calls Tryz.prog 162 #[.string ⟨#[65, 98, 115]⟩, .int .i64 t, .int .i64 1] w (Opd w (if oneOK [65, 98, 115] t = true then 0 else 1)) := by
  rcases typ_cases ht with rfl | rfl | rfl | rfl
  · exact (Nu.unary2_1 1 w (by decide)).mono (opd_same (by rw [Nu.un_1 2 1 (by decide) (by decide)]; rfl))
  · exact (Nu.unary2_6 1 w (by decide)).mono (opd_same (by rw [Nu.un_6 2 1 (by decide) (by decide)]; rfl))
  · exact (Nu.unary2_7 1 w (by decide)).mono (opd_same (by rw [Nu.un_7 2 1 (by decide) (by decide)]; rfl))
  · exact (Nu.unary2_9 1 w (by decide)).mono (opd_same (by rw [Nu.un_9 2 1 (by decide) (by decide)]; rfl))

theorem one_Not (t : Int) (ht : isTypeP t = true) (w : World) : Calls Tryz.prog 162 #[.string ⟨#[78, 111, 116]⟩, .int .i64 t, .int .i64 1] w (Opd w (if oneOK [78, 111, 116] t = true then 0 else 1)) := by
  rcases typ_cases ht with rfl | rfl | rfl | rfl
  · exact (Nu.unary3_1 1 w (by decide)).mono (opd_same (by rw [Nu.un_1 3 1 (by decide) (by decide)]; rfl))
  · exact (Nu.unary3_6 1 w (by decide)).mono (opd_same (by rw [Nu.un_6 3 1 (by decide) (by decide)]; rfl))
  · exact (Nu.unary3_7 1 w (by decide)).mono (opd_same (by rw [Nu.un_7 3 1 (by decide) (by decide)]; rfl))
  · exact (Nu.unary3_9 1 w (by decide)).mono (opd_same (by rw [Nu.un_9 3 1 (by decide) (by decide)]; rfl))

theorem one_Relu (t : Int) (ht : isTypeP t = true) (w : World) : Calls Tryz.prog 162 #[.string ⟨#[82, 101, 108, 117]⟩, .int .i64 t, .int .i64 1] w (Opd w (if oneOK [82, 101, 108, 117] t = true then 0 else 1)) := by
  rcases typ_cases ht with rfl | rfl | rfl | rfl
  · exact (Nu.unary4_1 1 w (by decide)).mono (opd_same (by rw [Nu.un_1 4 1 (by decide) (by decide)]; rfl))
  · exact (Nu.unary4_6 1 w (by decide)).mono (opd_same (by rw [Nu.un_6 4 1 (by decide) (by decide)]; rfl))
  · exact (Nu.unary4_7 1 w (by decide)).mono (opd_same (by rw [Nu.un_7 4 1 (by decide) (by decide)]; rfl))
  · exact (Nu.unary4_9 1 w (by decide)).mono (opd_same (by rw [Nu.un_9 4 1 (by decide) (by decide)]; rfl))

theorem one_Sqrt (t : Int) (ht : isTypeP t = true) (w : World) : Calls Tryz.prog 162 #[.string ⟨#[83, 113, 114, 116]⟩, .int .i64 t, .int .i64 1] w (Opd w (if oneOK [83, 113, 114, 116] t = true then 0 else 1)) := by
  rcases typ_cases ht with rfl | rfl | rfl | rfl
  · exact (Nu.unary5_1 1 w (by decide)).mono opd_round
  · exact (Nu.unary5_6 1 w (by decide)).mono (opd_same (by rw [Nu.un_6 5 1 (by decide) (by decide)]; rfl))
  · exact (Nu.unary5_7 1 w (by decide)).mono (opd_same (by rw [Nu.un_7 5 1 (by decide) (by decide)]; rfl))
  · exact (Nu.unary5_9 1 w (by decide)).mono (opd_same (by rw [Nu.un_9 5 1 (by decide) (by decide)]; rfl))

theorem one_Floor (t : Int) (ht : isTypeP t = true) (w : World) : Calls Tryz.prog 162 #[.string ⟨#[70, 108, 111, 111, 114]⟩, .int .i64 t, .int .i64 1] w (Opd w (if oneOK [70, 108, 111, 111, 114] t = true then 0 else 1)) := by
  rcases typ_cases ht with rfl | rfl | rfl | rfl
  · exact (Nu.unary6_1 1 w (by decide)).mono opd_round
  · exact (Nu.unary6_6 1 w (by decide)).mono (opd_same (by rw [Nu.un_6 6 1 (by decide) (by decide)]; rfl))
  · exact (Nu.unary6_7 1 w (by decide)).mono (opd_same (by rw [Nu.un_7 6 1 (by decide) (by decide)]; rfl))
  · exact (Nu.unary6_9 1 w (by decide)).mono (opd_same (by rw [Nu.un_9 6 1 (by decide) (by decide)]; rfl))

theorem one_Exp (t : Int) (ht : isTypeP t = true) (w : World) : Calls Tryz.prog 162 #[.string ⟨#[69, 120, 112]⟩, .int .i64 t, .int .i64 1] w (Opd w (if oneOK [69, 120, 112] t = true then 0 else 1)) := by
  rcases typ_cases ht with rfl | rfl | rfl | rfl
  · exact (Nu.unary7_1 1 w (by decide)).mono opd_round
  · exact (Nu.unary7_6 1 w (by decide)).mono (opd_same (by rw [Nu.un_6 7 1 (by decide) (by decide)]; rfl))
  · exact (Nu.unary7_7 1 w (by decide)).mono (opd_same (by rw [Nu.un_7 7 1 (by decide) (by decide)]; rfl))
  · exact (Nu.unary7_9 1 w (by decide)).mono (opd_same (by rw [Nu.un_9 7 1 (by decide) (by decide)]; rfl))

theorem one_Sigmoid (t : Int) (ht : isTypeP t = true) (w : World) : Calls Tryz.prog 162 #[.string ⟨#[83, 105, 103, 109, 111, 105, 100]⟩, .int .i64 t, .int .i64 1] w (Opd w (if oneOK [83, 105, 103, 109, 111, 105, 100] t = true then 0 else 1)) := by
  rcases typ_cases ht with rfl | rfl | rfl | rfl
  · exact (Nu.unary8_1 1 w (by decide)).mono opd_round
  · exact (Nu.unary8_6 1 w (by decide)).mono (opd_same (by rw [Nu.un_6 8 1 (by decide) (by decide)]; rfl))
  · exact (Nu.unary8_7 1 w (by decide)).mono (opd_same (by rw [Nu.un_7 8 1 (by decide) (by decide)]; rfl))
  · exact (Nu.unary8_9 1 w (by decide)).mono (opd_same (by rw [Nu.un_9 8 1 (by decide) (by decide)]; rfl))

theorem one_Tanh (t : Int) (ht : isTypeP t = true) (w : World) : Calls Tryz.prog 162 #[.string ⟨#[84, 97, 110, 104]⟩, .int .i64 t, .int .i64 1] w (Opd w (if oneOK [84, 97, 110, 104] t = true then 0 else 1)) := by
  rcases typ_cases ht with rfl | rfl | rfl | rfl
  · exact (Nu.unary9_1 1 w (by decide)).mono opd_round
  · exact (Nu.unary9_6 1 w (by decide)).mono (opd_same (by rw [Nu.un_6 9 1 (by decide) (by decide)]; rfl))
  · exact (Nu.unary9_7 1 w (by decide)).mono (opd_same (by rw [Nu.un_7 9 1 (by decide) (by decide)]; rfl))
  · exact (Nu.unary9_9 1 w (by decide)).mono (opd_same (by rw [Nu.un_9 9 1 (by decide) (by decide)]; rfl))

theorem one_any (op : ByteArray) (t : Int) (h : op.toList ∈ names1) (ht : isTypeP t = true) (w : World) : Calls Tryz.prog 162 #[.string op, .int .i64 t, .int .i64 1] w (Opd w (if oneOK op.toList t = true then 0 else 1)) := by
  have e : op = B op.toList := by rw [bytes_toList, B_self]
  simp only [names1, List.mem_cons, List.not_mem_nil, or_false] at h
  rcases h with h | h | h | h | h | h | h | h | h | h
  · rw [h, show op = ⟨#[73, 100, 101, 110, 116, 105, 116, 121]⟩ from e.trans (by rw [h]; rfl)]; exact one_Identity t ht w
  · rw [h, show op = ⟨#[78, 101, 103]⟩ from e.trans (by rw [h]; rfl)]; exact one_Neg t ht w
  · rw [h, show op = ⟨#[65, 98, 115]⟩ from e.trans (by rw [h]; rfl)]; exact one_Abs t ht w
  · rw [h, show op = ⟨#[78, 111, 116]⟩ from e.trans (by rw [h]; rfl)]; exact one_Not t ht w
  · rw [h, show op = ⟨#[82, 101, 108, 117]⟩ from e.trans (by rw [h]; rfl)]; exact one_Relu t ht w
  · rw [h, show op = ⟨#[83, 113, 114, 116]⟩ from e.trans (by rw [h]; rfl)]; exact one_Sqrt t ht w
  · rw [h, show op = ⟨#[70, 108, 111, 111, 114]⟩ from e.trans (by rw [h]; rfl)]; exact one_Floor t ht w
  · rw [h, show op = ⟨#[69, 120, 112]⟩ from e.trans (by rw [h]; rfl)]; exact one_Exp t ht w
  · rw [h, show op = ⟨#[83, 105, 103, 109, 111, 105, 100]⟩ from e.trans (by rw [h]; rfl)]; exact one_Sigmoid t ht w
  · rw [h, show op = ⟨#[84, 97, 110, 104]⟩ from e.trans (by rw [h]; rfl)]; exact one_Tanh t ht w

theorem mustone_any (op : ByteArray) (t : Int) (h : op.toList ∈ names1) (ht : isTypeP t = true) (w : World) : Calls Tryz.prog 124 #[.string op, .int .i64 t] w (Ended w (mustP (oneOK op.toList t)) fun _ v _ => v = .tuple #[]) := by
  have C := hide (one_any op t h ht w)
  cases hx : oneOK op.toList t with
  | true =>
    rw [hx, if_pos rfl] at C
    clear hx h ht
    go_enter Tryz.func124, Tryz.ntmps124
    go_wp2_with (first | (go_at_call 162; refine C.out.mono ?_; rintro e w' ⟨z, rfl, hg⟩) | (go_at_call 118; refine (must_yes _).mono ?_; rintro e w' ⟨rfl, rfl⟩))
    go_end0
    exact ⟨hg, _, rfl, rfl⟩
  | false =>
    rw [hx, if_neg (by decide)] at C
    clear hx h ht
    go_enter Tryz.func124, Tryz.ntmps124
    go_wp2_with (first | (go_at_call 162; refine C.out.mono ?_; rintro e w' ⟨z, rfl, hg⟩) | (go_at_call 118; refine (must_no _).mono ?_; rintro e w' ⟨rfl, rfl⟩))
    exact ⟨rfl, hg, rfl⟩

end Go.Proofs.YtkefdkboejimeaaGreatDoor

namespace Go.Proofs.YtkefdkboejimeaaGreatDoor

open Go.RowKit

abbrev nilS : Sl := ⟨none, 0, 0⟩

theorem lit_isLG {α : Type} {te : TypeId} {size bytes : Nat} {f : α → List Value} (hf : ∀ a, (f a).length = size) {w : World} {B : Nat} {xs : List α} {cur : Array Value} (hb : w.heap[B]? = some (.cells cur te (0, 0))) (hc : cur.toList = xs.flatMap f) (hs : cur.size = xs.length * size) (hl : xs.length * bytes ≤ 140737488351232) (hm : xs.length ≤ 1048576) :
    IsL bytes size f w (.slice (some ⟨B, 0, none⟩) xs.length xs.length) xs := by
  refine OwnsL.isL (te := te) (base := 0) hf ?_ hl
  refine ⟨by rw [← hc, Array.length_toList, hs], Or.inr ⟨B, xs.length, cur, rfl, Nat.zero_le _, hb, Nat.le_refl _, by simp only [maxLen]; omega, hs, ?_⟩⟩
  rw [hc, List.take_of_length_le (by rw [← hc, Array.length_toList, hs]; exact Nat.le_refl _)]

theorem ints_nil (w : World) : IsInts w (.slice none 0 0) [] := ⟨none, 0, rfl, by simp, by simp, by simp, fun _ => ⟨rfl, rfl⟩, fun h => by simp at h, fun z hz => by simp at hz⟩

end Go.Proofs.YtkefdkboejimeaaGreatDoor

namespace Go.Proofs.YtkefdkboejimeaaGreatDoor

open Go.RowKit

theorem ints_addr' {w : World} {a : Option Addr} {l c : Nat} {zs : List Int} (h : IsInts w (.slice a l c) zs) {k : Nat} (hk : k < zs.length) : ∃ b off, a = some ⟨b, off, none⟩ ∧ w.cell? ⟨b, off + k, none⟩ = some (.int .i64 (zs.getD k 0)) := by
  obtain ⟨ao, cap, e, h1, h2, h3, h4, h5, h6⟩ := h
  cases e
  obtain ⟨b, off, rfl, hc⟩ := h5 (by omega)
  exact ⟨b, off, rfl, hc k hk⟩

set_option maxRecDepth 100000 in
set_option maxHeartbeats 1600000 in
theorem sameints_eq (u v : Value) (xs : List Int) (w : World) (hu : IsInts w u xs) (hv : IsInts w v xs) :
    Calls Tryz.prog 18 #[u, v] w fun e w' => e = .returned (.bool true) ∧ w.grownBy w' none := by
  have HU := hide hu
  have HV := hide hv
  obtain ⟨ua, uc, rfl, h1, h2, h3, -⟩ := hu
  obtain ⟨va, vc, rfl, k1, k2, k3, -⟩ := hv
  go_enter Tryz.func18, Tryz.ntmps18
  go_wp2
  go_loopw [5] (fun i wr => w.grownBy wr none ∧ ∃ k : Nat, k ≤ xs.length ∧ i = .int .i64 k) (fun i _ => xs.length - (intOf i).toNat)
  case atStart => exact ⟨grown_refl _, 0, Nat.zero_le _, rfl⟩
  case round =>
    obtain ⟨hg, k, hk, rfl⟩ := hrel
    by_cases hlt : k < xs.length
    · obtain ⟨ub, uo, rfl, a0⟩ := ints_addr' (HU.out.more hg) hlt
      obtain ⟨vb, vo, rfl, b0⟩ := ints_addr' (HV.out.more hg) hlt
      obtain ⟨X, hX⟩ : ∃ X, X = xs.getD k 0 := ⟨_, rfl⟩
      rw [← hX] at a0 b0
      clear hX
      go_wp2
      go_region
      all_goals
        go_wp2
        go_roundw
        case rel => exact ⟨grown_drew hg, k + 1, by omega, by go_num⟩
        case measure => simp [intOf]; omega
    · go_wp2
      go_ret
      exact ⟨rfl, hg⟩

set_option maxRecDepth 100000 in
set_option maxHeartbeats 1600000 in
theorem sameten_eq (ty : Int) (d t d' t' : Value) (ds ts : List Int) (w : World) (hd : IsInts w d ds) (ht : IsInts w t ts) (hd' : IsInts w d' ds) (ht' : IsInts w t' ts) :
    Calls Tryz.prog 12 #[.agg #[.int .i64 ty, d, t], .agg #[.int .i64 ty, d', t']] w fun e w' => e = .returned (.bool true) ∧ w.grownBy w' none := by
  have HD := hide hd
  have HD' := hide hd'
  have HT := hide ht
  have HT' := hide ht'
  obtain ⟨da, dc, rfl, -⟩ := hd
  obtain ⟨ea, ec, rfl, -⟩ := hd'
  obtain ⟨ua, uc, rfl, h1, h2, h3, -⟩ := ht
  obtain ⟨va, vc, rfl, k1, k2, k3, -⟩ := ht'
  obtain ⟨w0, hw0⟩ : ∃ w0, w0 = (w.alloc (.cells #[.int .i64 ty, .slice da ds.length dc, .slice ua ts.length uc] 25)).alloc (.cells #[.int .i64 ty, .slice ea ds.length ec, .slice va ts.length vc] 25) := ⟨_, rfl⟩
  have g0 : w.grownBy w0 none := by rw [hw0]; exact grown_trans (grown_new _ _) (grown_new _ _)
  have hbx := two_boxes w (.cells #[.int .i64 ty, .slice da ds.length dc, .slice ua ts.length uc] 25) (.cells #[.int .i64 ty, .slice ea ds.length ec, .slice va ts.length vc] 25)
  have hbx0 := hbx
  rw [← hw0] at hbx
  have B1 : Hid (∀ wx, w0.grownBy wx none → wx.heap[w.heap.size]? = some (.cells #[.int .i64 ty, .slice da ds.length dc, .slice ua ts.length uc] 25 (0, 0))) := fun wx hg => box_kept hbx.1 hg
  have B2 : Hid (∀ wx, w0.grownBy wx none → wx.heap[w.heap.size + 1]? = some (.cells #[.int .i64 ty, .slice ea ds.length ec, .slice va ts.length vc] 25 (0, 0))) := fun wx hg => box_kept hbx.2 hg
  obtain ⟨a0, a1, a2⟩ := ten_cells hbx0.1
  obtain ⟨b0, b1, b2⟩ := ten_cells hbx0.2
  clear hbx hbx0
  go_enter Tryz.func12, Tryz.ntmps12
  go_wp2_with fail
  rw [← hw0]
  clear hw0 a0 a1 a2 b0 b1 b2
  refine (sameints_eq _ _ ds w0 (HD.out.more g0) (HD'.out.more g0)).mono ?_
  rintro e w1 ⟨rfl, hg1⟩
  obtain ⟨a0, a1, a2⟩ := ten_cells (B1.out w1 hg1)
  obtain ⟨b0, b1, b2⟩ := ten_cells (B2.out w1 hg1)
  go_wp2_with fail
  clear a0 a1 a2 b0 b1 b2
  go_loopw [5] (fun i wr => w0.grownBy wr none ∧ ∃ k : Nat, k ≤ ts.length ∧ i = .int .i64 k) (fun i _ => ts.length - (intOf i).toNat)
  case atStart => exact ⟨hg1, 0, Nat.zero_le _, rfl⟩
  case round =>
    obtain ⟨hg, k, hk, rfl⟩ := hrel
    obtain ⟨a0, a1, a2⟩ := ten_cells (B1.out wr hg)
    obtain ⟨b0, b1, b2⟩ := ten_cells (B2.out wr hg)
    by_cases hlt : k < ts.length
    · obtain ⟨ub, uo, rfl, x0⟩ := ints_addr' (HT.out.more (grown_trans g0 hg)) hlt
      obtain ⟨vb, vo, rfl, y0⟩ := ints_addr' (HT'.out.more (grown_trans g0 hg)) hlt
      obtain ⟨X, hX⟩ : ∃ X, X = ts.getD k 0 := ⟨_, rfl⟩
      rw [← hX] at x0 y0
      clear hX
      go_wp2
      go_region
      all_goals
        go_wp2
        go_roundw
        case rel => exact ⟨grown_drew hg, k + 1, by omega, by go_num⟩
        case measure => simp [intOf]; omega
    · go_wp2
      go_ret
      exact ⟨rfl, grown_trans g0 hg⟩

end Go.Proofs.YtkefdkboejimeaaGreatDoor
