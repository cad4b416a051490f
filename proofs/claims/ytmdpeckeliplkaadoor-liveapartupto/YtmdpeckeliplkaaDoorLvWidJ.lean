/- How many bytes a value takes: the program's Width and the document's, by the walk. -/
import Derived.Test.YtmdpeckeliplkaaDoorPartP
import Derived.Test.YtmdpeckeliplkaaDoorNRNumJ
import Derived.Test.YtmdpeckeliplkaaDoorSSameJ
namespace Go.Proofs.YtmdpeckeliplkaaDoor
open Go.RowKit

/-- The bytes of an element. -/
def bytF (t : Int) : Int := if (t == 1) = true then 4 else if (t == 6) = true then 4 else if (t == 7) = true then 8 else if (t == 9) = true then 1 else 0

theorem chk_byt (t : Int) : chk t 0 = !(bytF t == 0) := by
  unfold chk bytF
  by_cases h1 : t = 1
  · subst h1; rfl
  · by_cases h6 : t = 6
    · subst h6; rfl
    · by_cases h7 : t = 7
      · subst h7; rfl
      · by_cases h9 : t = 9
        · subst h9; rfl
        · simp [h1, h6, h7, h9]

theorem byt_range (t : Int) : 0 ≤ bytF t ∧ bytF t ≤ 8 := by
  unfold bytF
  repeat (first | (split; omega) | omega)

theorem cnt_range {zs : List Int} : 0 ≤ cnt zs ∧ cnt zs ≤ 65536 := by
  unfold cnt
  by_cases h : cntE zs = 0
  · rw [if_pos h]
    unfold cntE at h
    by_cases h1 : zs.any (fun z => decide (z < 1)) = true
    · rw [if_pos h1] at h; cases h
    · rw [if_neg h1] at h
      by_cases h2 : 6 < zs.length
      · rw [if_pos h2] at h; cases h
      · rw [if_neg h2] at h
        by_cases h3 : 65536 < prod zs
        · rw [if_pos h3] at h; cases h
        · have h4 : ∀ z ∈ zs, 1 ≤ z := fun z hz => by
            have h5 : ¬ (decide (z < 1) = true) := fun h6 => h1 (List.any_eq_true.2 ⟨z, hz, h6⟩)
            have h7 : ¬ z < 1 := fun h8 => h5 (decide_eq_true h8)
            omega
          have := prod_pos zs h4
          omega
  · rw [if_neg h]
    omega

set_option maxRecDepth 100000 in
theorem bytesof_any (t : Int) (w : World) : Calls Tryd.prog 31 #[.int .i64 t] w fun e w' => e = .returned (.int .i64 (bytF t)) ∧ w = w' := by
  have HE : Hid (bytF t = if (t == 1) = true then 4 else if (t == 6) = true then 4 else if (t == 7) = true then 8 else if (t == 9) = true then 1 else 0) := rfl
  obtain ⟨B, hB⟩ : ∃ B, B = bytF t := ⟨_, rfl⟩
  rw [← hB] at HE ⊢
  clear hB
  go_enter Tryd.func31, Tryd.ntmps31
  cases h1 : (t == 1) with
  | true =>
    have E : Hid (B = 4) := by show _ = _; rw [HE.out, h1]; rfl
    go_wp2
    go_ret
    exact ⟨by rw [E.out]; rfl, rfl⟩
  | false =>
    cases h6 : (t == 6) with
    | true =>
      have E : Hid (B = 4) := by show _ = _; rw [HE.out, h1, h6]; rfl
      go_wp2
      go_ret
      exact ⟨by rw [E.out]; rfl, rfl⟩
    | false =>
      cases h7 : (t == 7) with
      | true =>
        have E : Hid (B = 8) := by show _ = _; rw [HE.out, h1, h6, h7]; rfl
        go_wp2
        go_ret
        exact ⟨by rw [E.out]; rfl, rfl⟩
      | false =>
        cases h9 : (t == 9) with
        | true =>
          have E : Hid (B = 1) := by show _ = _; rw [HE.out, h1, h6, h7, h9]; rfl
          go_wp2
          go_ret
          exact ⟨by rw [E.out]; rfl, rfl⟩
        | false =>
          have E : Hid (B = 0) := by show _ = _; rw [HE.out, h1, h6, h7, h9]; rfl
          go_wp2
          go_ret
          exact ⟨by rw [E.out]; rfl, rfl⟩

set_option maxRecDepth 100000 in
theorem dbytes_any (t : Int) (w : World) (hc : chk t 0 = true) : Calls Tryd.prog 35 #[.int .i64 t] w fun e w' => e = .returned (.int .i64 (bytF t)) ∧ w = w' := by
  have hc2 : t = 1 ∨ t = 6 ∨ t = 7 ∨ t = 9 := by
    unfold chk at hc
    by_cases h1 : t = 1
    · exact Or.inl h1
    · by_cases h6 : t = 6
      · exact Or.inr (Or.inl h6)
      · by_cases h7 : t = 7
        · exact Or.inr (Or.inr (Or.inl h7))
        · by_cases h9 : t = 9
          · exact Or.inr (Or.inr (Or.inr h9))
          · simp [h1, h6, h7, h9] at hc
  rcases hc2 with rfl | rfl | rfl | rfl
  all_goals
    go_enter Tryd.func35, Tryd.ntmps35
    go_wp2
    go_ret
    exact ⟨rfl, rfl⟩

/-- What Width answers. -/
def widF (t : Int) (ds : List Int) : Int := if (bytF t == 0) = true then 0 else cnt ds * bytF t
def widE (t : Int) (ds : List Int) : Int := if (bytF t == 0) = true then 5 else cntE ds

set_option maxRecDepth 100000 in
set_option maxHeartbeats 1600000 in
theorem width_any (nm : ByteArray) (t : Int) (dv : Sl) (ds : List Int) (w : World) (hd : IsInts w dv.v ds) : Calls Tryd.prog 16 #[.agg #[.string nm, .int .i64 t, .slice dv.a dv.n dv.c]] w fun e w' => e = .returned (.tuple #[.int .i64 (widF t ds), .int .i64 (widE t ds)]) ∧ w.grownBy w' none := by
  obtain ⟨da, dn, dc⟩ := dv
  simp only [Sl.v] at hd
  obtain ⟨w0, hw0⟩ : ∃ w0, w0 = w.alloc (.cells #[.string nm, .int .i64 t, .slice da dn dc] 42) := ⟨_, rfl⟩
  have g0 : w.grownBy w0 none := by rw [hw0]; exact grown_new _ _
  have b0 := heap_alloc_new w (.cells #[.string nm, .int .i64 t, .slice da dn dc] 42)
  have c1 : (w.alloc (.cells #[.string nm, .int .i64 t, .slice da dn dc] 42)).cell? ⟨w.heap.size, 1, none⟩ = some (.int .i64 t) := (cell_of_row _ _ 1 _ _ (0, 0) b0).trans rfl
  have c2 : (w.alloc (.cells #[.string nm, .int .i64 t, .slice da dn dc] 42)).cell? ⟨w.heap.size, 2, none⟩ = some (.slice da dn dc) := (cell_of_row _ _ 2 _ _ (0, 0) b0).trans rfl
  have CO := hide (count_any (.slice da dn dc) ds w0 (hd.more g0))
  have BO := hide (bytesof_any t w0)
  obtain ⟨hb0, hb1⟩ := byt_range t
  obtain ⟨hc0, hc1⟩ := cnt_range (zs := ds)
  have HF : Hid (widF t ds = if (bytF t == 0) = true then 0 else cnt ds * bytF t) := rfl
  have HE : Hid (widE t ds = if (bytF t == 0) = true then 5 else cntE ds) := rfl
  have hm0 : 0 ≤ cnt ds * bytF t := Int.mul_nonneg hc0 hb0
  have hm1 : cnt ds * bytF t ≤ 65536 * 8 := Int.mul_le_mul hc1 hb1 hb0 (by omega)
  obtain ⟨WF, hWF⟩ : ∃ WF, WF = widF t ds := ⟨_, rfl⟩
  obtain ⟨WE, hWE⟩ : ∃ WE, WE = widE t ds := ⟨_, rfl⟩
  obtain ⟨B, hB⟩ : ∃ B, B = bytF t := ⟨_, rfl⟩
  obtain ⟨N, hN⟩ : ∃ N, N = cnt ds := ⟨_, rfl⟩
  obtain ⟨E, hE⟩ : ∃ E, E = cntE ds := ⟨_, rfl⟩
  rw [← hWF] at HF ⊢
  rw [← hWE] at HE ⊢
  simp only [← hB, ← hN, ← hE] at HF HE CO BO hm0 hm1 hb0 hb1 hc0 hc1
  have hwr : IntKind.i64.wrap (N * B) = N * B := by rw [IntKind.wrap_i64]; omega
  clear hWF hWE hB hN hE b0 hd
  go_enter Tryd.func16, Tryd.ntmps16
  go_wp2_with fail
  rw [← hw0]
  rw [← hw0] at c1 c2
  clear hw0
  refine BO.out.mono ?_
  rintro e w1 ⟨rfl, hw1⟩
  have hw1 := hw1.symm
  subst hw1
  cases hz : (B == 0) with
  | true =>
    have E1 : Hid (WF = 0) := by show _ = _; rw [HF.out, hz]; rfl
    have E2 : Hid (WE = 5) := by show _ = _; rw [HE.out, hz]; rfl
    go_wp2_with fail
    go_ret2
    exact ⟨by rw [E1.out, E2.out]; rfl, g0⟩
  | false =>
    have E1 : Hid (WF = N * B) := by show _ = _; rw [HF.out, hz]; rfl
    have E2 : Hid (WE = E) := by show _ = _; rw [HE.out, hz]; rfl
    go_wp2_with fail
    refine CO.out.mono ?_
    rintro e w1 ⟨rfl, hw1⟩
    have hw1 := hw1.symm
    subst hw1
    go_wp2_with fail
    go_ret2
    exact ⟨by rw [E1.out, E2.out]; rfl, g0⟩

set_option maxRecDepth 100000 in
set_option maxHeartbeats 1600000 in
theorem dwidth_any (nm : ByteArray) (t : Int) (dv : Sl) (ds : List Int) (w : World) (hd : IsInts w dv.v ds) : Calls Tryd.prog 17 #[.agg #[.string nm, .int .i64 t, .slice dv.a dv.n dv.c]] w fun e w' => e = .returned (.tuple #[.int .i64 (widF t ds), .int .i64 (widE t ds)]) ∧ w.grownBy w' none := by
  obtain ⟨da, dn, dc⟩ := dv
  simp only [Sl.v] at hd
  obtain ⟨w0, hw0⟩ : ∃ w0, w0 = w.alloc (.cells #[.string nm, .int .i64 t, .slice da dn dc] 42) := ⟨_, rfl⟩
  have g0 : w.grownBy w0 none := by rw [hw0]; exact grown_new _ _
  have b0 := heap_alloc_new w (.cells #[.string nm, .int .i64 t, .slice da dn dc] 42)
  have c1 : (w.alloc (.cells #[.string nm, .int .i64 t, .slice da dn dc] 42)).cell? ⟨w.heap.size, 1, none⟩ = some (.int .i64 t) := (cell_of_row _ _ 1 _ _ (0, 0) b0).trans rfl
  have c2 : (w.alloc (.cells #[.string nm, .int .i64 t, .slice da dn dc] 42)).cell? ⟨w.heap.size, 2, none⟩ = some (.slice da dn dc) := (cell_of_row _ _ 2 _ _ (0, 0) b0).trans rfl
  have CO := hide (refcount_any (.slice da dn dc) ds w0 (hd.more g0))
  have TY := hide (rtyped_any t w0)
  have BO := hide (fun (h : chk t 0 = true) => dbytes_any t w0 h)
  have HCB := hide (chk_byt t)
  have HCE := hide (fun (h : cntE ds ≠ 0) => cnt_err h)
  obtain ⟨hb0, hb1⟩ := byt_range t
  obtain ⟨hc0, hc1⟩ := cnt_range (zs := ds)
  have HF : Hid (widF t ds = if (bytF t == 0) = true then 0 else cnt ds * bytF t) := rfl
  have HE : Hid (widE t ds = if (bytF t == 0) = true then 5 else cntE ds) := rfl
  have hm0 : 0 ≤ cnt ds * bytF t := Int.mul_nonneg hc0 hb0
  have hm1 : cnt ds * bytF t ≤ 65536 * 8 := Int.mul_le_mul hc1 hb1 hb0 (by omega)
  obtain ⟨WF, hWF⟩ : ∃ WF, WF = widF t ds := ⟨_, rfl⟩
  obtain ⟨WE, hWE⟩ : ∃ WE, WE = widE t ds := ⟨_, rfl⟩
  obtain ⟨B, hB⟩ : ∃ B, B = bytF t := ⟨_, rfl⟩
  obtain ⟨N, hN⟩ : ∃ N, N = cnt ds := ⟨_, rfl⟩
  obtain ⟨E, hE⟩ : ∃ E, E = cntE ds := ⟨_, rfl⟩
  obtain ⟨K, hK⟩ : ∃ K, K = chk t 0 := ⟨_, rfl⟩
  rw [← hWF] at HF ⊢
  rw [← hWE] at HE ⊢
  simp only [← hB, ← hN, ← hE, ← hK] at HF HE CO BO TY HCB HCE hm0 hm1 hb0 hb1 hc0 hc1
  have hwr : IntKind.i64.wrap (N * B) = N * B := by rw [IntKind.wrap_i64]; omega
  clear hWF hWE hB hN hE hK b0 hd
  go_enter Tryd.func17, Tryd.ntmps17
  go_wp2_with fail
  rw [← hw0]
  rw [← hw0] at c1 c2
  clear hw0
  refine TY.out.mono ?_
  rintro e w1 ⟨rfl, hw1⟩
  have hw1 := hw1.symm
  subst hw1
  cases K with
  | false =>
    have hz : (B == 0) = true := by have := HCB.out; simpa using this
    have E1 : Hid (WF = 0) := by show _ = _; rw [HF.out, hz]; rfl
    have E2 : Hid (WE = 5) := by show _ = _; rw [HE.out, hz]; rfl
    clear hz
    go_wp2_with fail
    go_ret2
    exact ⟨by rw [E1.out, E2.out]; rfl, g0⟩
  | true =>
    have hz : (B == 0) = false := by have := HCB.out; simpa using this
    have E1 : Hid (WF = N * B) := by show _ = _; rw [HF.out, hz]; rfl
    have E2 : Hid (WE = E) := by show _ = _; rw [HE.out, hz]; rfl
    clear hz
    go_wp2_with fail
    refine CO.out.mono ?_
    rintro e w1 ⟨rfl, hw1⟩
    have hw1 := hw1.symm
    subst hw1
    by_cases hE0 : E = 0
    · have E3 : Hid (WE = 0) := E2.out.trans hE0
      rw [hE0]
      clear hE0
      go_wp2_with fail
      refine (BO.out trivial).mono ?_
      rintro e w1 ⟨rfl, hw1⟩
      have hw1 := hw1.symm
      subst hw1
      go_wp2_with fail
      go_ret2
      exact ⟨by rw [E1.out, E3.out]; rfl, g0⟩
    · have hN0 : N = 0 := HCE.out hE0
      have E3 : Hid (WF = 0) := by show _ = _; rw [E1.out, hN0, Int.zero_mul]
      have hzb : (E != 0) = true := by simpa using hE0
      clear hE0 hN0
      go_wp2_with fail
      go_ret2
      exact ⟨by rw [E3.out, E2.out]; rfl, g0⟩
end Go.Proofs.YtmdpeckeliplkaaDoor
