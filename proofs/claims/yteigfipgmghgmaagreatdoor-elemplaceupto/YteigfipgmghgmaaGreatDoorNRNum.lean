/- Elements and tensors: the document's Check, by the walk. -/
import Derived.Test.YteigfipgmghgmaaGreatDoorNPb
import Derived.Test.YteigfipgmghgmaaGreatDoorSSame
import Derived.Test.YteigfipgmghgmaaGreatDoorNChk
namespace Go.Proofs.YteigfipgmghgmaaGreatDoor
open Go.RowKit

/-- A float's bits, of an element. -/
def fb (x : Int) : Nat := (x % 4294967296).toNat

theorem fb_lt (x : Int) : fb x < 4294967296 := by unfold fb; omega

theorem datum_order_self (d : Ieee.Datum) : d.order d = if d.isNaN then none else some .eq := by
  cases d <;> simp [Ieee.Datum.order, Ieee.Datum.isNaN]

theorem order_self (b : Nat) : FloatKind.f32.format.order b b = if (FloatKind.f32.format.read b).isNaN then none else some .eq := datum_order_self _

theorem read32_nan (b : Nat) (_h : b < 4294967296) : (FloatKind.f32.format.read b).isNaN = decide (2139095040 < b % 2147483648) := by
  have e1 : FloatKind.f32.format.signWeight = 2147483648 := rfl
  have e2 : FloatKind.f32.format.binade = 8388608 := rfl
  have e3 : FloatKind.f32.format.infRung = 2139095040 := rfl
  have e4 : FloatKind.f32.format.leastPlace = -149 := rfl
  unfold Ieee.Format.read
  simp only [e1, e2, e3, e4]
  split
  · simp [Ieee.Datum.isNaN]; omega
  · split
    · simp [Ieee.Datum.isNaN]; omega
    · split
      · simp [Ieee.Datum.isNaN]; omega
      · simp [Ieee.Datum.isNaN]; omega

theorem rchk1 (x : Int) (h0 : 0 ≤ x) (h1 : x < 4294967296) : chk 1 x = ((FloatKind.f32.format.order (fb x) (fb x) == some .eq) || x == 2143289344) := by
  rw [order_self, read32_nan _ (fb_lt x), chk_float 1 x rfl]
  have hf : (fb x : Int) = x := by unfold fb; omega
  by_cases hn : 2139095040 < fb x % 2147483648
  · rw [decide_eq_true hn]
    rw [Bool.eq_iff_iff]; simp; omega
  · rw [decide_eq_false hn]
    rw [Bool.eq_iff_iff]; simp; omega

theorem ext_from (n : Int) (w : World) : (callFunc 42 #[.int .u32 n]).run Tryz.prog w = .ok (.value (.float .f32 n.toNat)) w := by kernel_rfl

attribute [local go_sem] ext_from

set_option maxHeartbeats 400000 in
theorem rf_any (x : Int) (w : World) : Calls Tryz.prog 25 #[.int .i64 x] w fun e w' => e = .returned (.float .f32 (fb x)) ∧ w' = w := by
  go_enter Tryz.func25, Tryz.ntmps25
  go_wp2
  go_ret
  exact ⟨rfl, rfl⟩

set_option maxHeartbeats 400000 in
theorem rcheck_1 (x : Int) (w : World) : Calls Tryz.prog 18 #[.int .i64 1, .int .i64 x] w fun e w' => e = .returned (.bool (chk 1 x)) ∧ w' = w := by
  by_cases h0 : 0 ≤ x
  · by_cases h1 : x < 4294967296
    · rw [rchk1 x h0 h1]
      cases h : (FloatKind.f32.format.order (fb x) (fb x) == some .eq) with
      | true =>
        go_enter Tryz.func18, Tryz.ntmps18
        go_wp2_with (first | (go_at_call 25; refine (rf_any _ _).mono ?_; rintro e w' ⟨rfl, rfl⟩) | go_in)
        go_ret
        exact ⟨rfl, rfl⟩
      | false =>
        go_enter Tryz.func18, Tryz.ntmps18
        go_wp2_with (first | (go_at_call 25; refine (rf_any _ _).mono ?_; rintro e w' ⟨rfl, rfl⟩) | go_in)
        go_ret
        exact ⟨rfl, rfl⟩
    · have c : chk 1 x = false := by rw [chk_float 1 x rfl]; simp; omega
      rw [c]; clear c
      go_enter Tryz.func18, Tryz.ntmps18
      go_wp2_with (first | (go_at_call 25; refine (rf_any _ _).mono ?_; rintro e w' ⟨rfl, rfl⟩) | go_in)
      go_ret
      exact ⟨rfl, rfl⟩
  · have c : chk 1 x = false := by rw [chk_float 1 x rfl]; simp; omega
    rw [c]; clear c
    go_enter Tryz.func18, Tryz.ntmps18
    go_wp2_with (first | (go_at_call 25; refine (rf_any _ _).mono ?_; rintro e w' ⟨rfl, rfl⟩) | go_in)
    go_ret
    exact ⟨rfl, rfl⟩

set_option maxHeartbeats 400000 in
theorem rcheck_6 (x : Int) (w : World) : Calls Tryz.prog 18 #[.int .i64 6, .int .i64 x] w fun e w' => e = .returned (.bool (chk 6 x)) ∧ w' = w := by
  by_cases h0 : -2147483648 ≤ x
  · have c : chk 6 x = decide (x ≤ 2147483647) := by simp [chk, h0]
    rw [c]; clear c
    go_enter Tryz.func18, Tryz.ntmps18
    go_wp2
    go_ret
    exact ⟨rfl, rfl⟩
  · have c : chk 6 x = false := by simp [chk, h0]
    rw [c]; clear c
    go_enter Tryz.func18, Tryz.ntmps18
    go_wp2
    go_ret
    exact ⟨rfl, rfl⟩

set_option maxHeartbeats 400000 in
theorem rcheck_7 (x : Int) (w : World) : Calls Tryz.prog 18 #[.int .i64 7, .int .i64 x] w fun e w' => e = .returned (.bool (chk 7 x)) ∧ w' = w := by
  have c : chk 7 x = true := by simp [chk]
  rw [c]; clear c
  go_enter Tryz.func18, Tryz.ntmps18
  go_wp2
  go_ret
  exact ⟨rfl, rfl⟩

set_option maxHeartbeats 400000 in
theorem rcheck_9 (x : Int) (w : World) : Calls Tryz.prog 18 #[.int .i64 9, .int .i64 x] w fun e w' => e = .returned (.bool (chk 9 x)) ∧ w' = w := by
  by_cases h0 : x = 0
  · have c : chk 9 x = true := by simp [chk, h0]
    rw [c]; clear c; subst h0
    go_enter Tryz.func18, Tryz.ntmps18
    go_wp2
    go_ret
    exact ⟨rfl, rfl⟩
  · have c : chk 9 x = (x == 1) := by rw [Bool.eq_iff_iff]; simp [chk, h0]
    have h0' : (x == 0) = false := by simpa using h0
    rw [c]; clear c h0
    go_enter Tryz.func18, Tryz.ntmps18
    go_wp2
    go_ret
    exact ⟨rfl, rfl⟩

set_option maxHeartbeats 400000 in
theorem rcheck_no (t x : Int) (w : World) (h1 : (t == 1) = false) (h6 : (t == 6) = false) (h7 : (t == 7) = false) (h9 : (t == 9) = false) : Calls Tryz.prog 18 #[.int .i64 t, .int .i64 x] w fun e w' => e = .returned (.bool false) ∧ w' = w := by
  go_enter Tryz.func18, Tryz.ntmps18
  go_wp2
  go_ret
  exact ⟨rfl, rfl⟩

theorem rcheck_any (t x : Int) (w : World) : Calls Tryz.prog 18 #[.int .i64 t, .int .i64 x] w fun e w' => e = .returned (.bool (chk t x)) ∧ w' = w := by
  by_cases h1 : t = 1
  · subst h1; exact rcheck_1 x w
  · by_cases h6 : t = 6
    · subst h6; exact rcheck_6 x w
    · by_cases h7 : t = 7
      · subst h7; exact rcheck_7 x w
      · by_cases h9 : t = 9
        · subst h9; exact rcheck_9 x w
        · have c : chk t x = false := by simp [chk, h1, h6, h7, h9]
          rw [c]; exact rcheck_no t x w (by simpa using h1) (by simpa using h6) (by simpa using h7) (by simpa using h9)

theorem fOK_chk (f : Int) : fOK f = chk 1 f := by
  rw [chk_float 1 f rfl, fOK]
  by_cases h0 : 0 ≤ f
  · by_cases h1 : f < 4294967296
    · rw [andNot_i64 f h0 h1, Bool.eq_iff_iff]
      simp [h0, h1]
    · rw [Bool.eq_iff_iff]; simp [h1]
  · rw [Bool.eq_iff_iff]; simp [h0]

theorem rtyped_any (t : Int) (w : World) : Calls Tryz.prog 16 #[.int .i64 t] w fun e w' => e = .returned (.bool (chk t 0)) ∧ w' = w := by
  go_enter Tryz.func16, Tryz.ntmps16
  go_wp2_with fail
  refine (rcheck_any t 0 w).mono ?_
  rintro e w' ⟨rfl, rfl⟩
  go_wp2
  go_ret
  exact ⟨rfl, rfl⟩

set_option maxRecDepth 100000 in
set_option maxHeartbeats 1600000 in
theorem rpbcheck_any (ty : Int) (dv tv : Value) (ds ts : List Int) (w : World) (hd : IsInts w dv ds) (ht : IsInts w tv ts) :
    Calls Tryz.prog 10 #[.agg #[.int .i64 ty, dv, tv]] w fun e w' => e = .returned (.int .i64 (pbE ty ds ts)) ∧ w.grownBy w' none := by
  have HD := hide hd
  have HT := hide ht
  obtain ⟨da, dc, rfl, -⟩ := hd
  obtain ⟨ta, tc, rfl, t1, t2, t3, -, t5, -⟩ := ht
  have T5 := hide t5
  clear t5
  obtain ⟨w0, hw0⟩ : ∃ w0, w0 = w.alloc (.cells #[.int .i64 ty, .slice da ds.length dc, .slice ta ts.length tc] 32) := ⟨_, rfl⟩
  have g0 : w.grownBy w0 none := by rw [hw0]; exact grown_new _ _
  have b0 := heap_alloc_new w (.cells #[.int .i64 ty, .slice da ds.length dc, .slice ta ts.length tc] 32)
  obtain ⟨c0, c1, c2⟩ := ten_cells b0
  go_enter Tryz.func10, Tryz.ntmps10
  go_wp2_with fail
  rw [← hw0] at c0 c1 c2 b0 ⊢
  have BX : Hid (∀ wx, w0.grownBy wx none → wx.heap[w.heap.size]? = some (.cells #[.int .i64 ty, .slice da ds.length dc, .slice ta ts.length tc] 32 (0, 0))) := fun wx hg => box_kept b0 hg
  clear hw0 b0
  refine (rtyped_any ty w0).mono ?_
  rintro e w1 ⟨rfl, rfl⟩
  cases hc : chk ty 0 with
  | false =>
    have E : Hid (pbE ty ds ts = 5) := by show _ = _; unfold pbE; rw [hc, if_pos rfl]
    clear hc
    go_wp2
    go_ret
    exact ⟨by rw [E.out]; rfl, g0⟩
  | true =>
    have E0 : Hid (pbE ty ds ts = if cntE ds ≠ 0 then cntE ds else if (ts.length : Int) ≠ cnt ds then 4 else if ts.all (chk ty) then 0 else 4) := by show _ = _; unfold pbE; rw [hc, if_neg (by decide)]
    clear hc
    go_wp2_with fail
    refine (refcount_any _ ds w1 (HD.out.more g0)).mono ?_
    rintro e w2 ⟨rfl, rfl⟩
    obtain ⟨X, hX⟩ : ∃ X, X = cntE ds := ⟨_, rfl⟩
    obtain ⟨Y, hY⟩ : ∃ Y, Y = cnt ds := ⟨_, rfl⟩
    rw [← hX, ← hY] at E0 ⊢
    clear hX hY
    by_cases hx : X = 0
    · subst hx
      have E1 : Hid (pbE ty ds ts = if (ts.length : Int) ≠ Y then 4 else if ts.all (chk ty) then 0 else 4) := by show _ = _; rw [E0.out, if_neg (by simp)]
      clear E0
      by_cases hy : (ts.length : Int) = Y
      · have E2 : Hid (pbE ty ds ts = if ts.all (chk ty) then 0 else 4) := by show _ = _; rw [E1.out, if_neg (by simp [hy])]
        subst hy
        clear E1
        go_wp2_with fail
        clear c0 c1 c2
        go_loopw [5] (fun i wr => w1.grownBy wr none ∧ ∃ k : Nat, k ≤ ts.length ∧ i = .int .i64 k ∧ (ts.take k).all (chk ty) = true) (fun i _ => ts.length - (intOf i).toNat)
        case atStart => exact ⟨grown_refl _, 0, Nat.zero_le _, rfl, rfl⟩
        case round =>
          obtain ⟨hg, k, hk, rfl, hall⟩ := hrel
          have HALL := hide hall
          clear hall
          obtain ⟨c0, c1, c2⟩ := ten_cells (BX.out wr hg)
          by_cases hlt : k < ts.length
          · obtain ⟨b, off, rfl, hc⟩ := T5.out (by omega)
            obtain ⟨z, hz⟩ : ∃ z, z = ts.getD k 0 := ⟨_, rfl⟩
            have hcell := cell_still (hc k hlt) (grown_trans g0 hg)
            rw [← hz] at hcell
            have HZ := hide hz
            clear hz hc
            go_wp2_with fail
            go_cut [37] from 29 to 37 (fun b wx => b = .bool (!(chk ty z)) ∧ w1.grownBy wx none)
            case first =>
              go_region_held3 (fun w' => w'.cell? ⟨w.heap.size, 0, none⟩ = some (.int .i64 ty) ∧ w'.cell? ⟨w.heap.size, 2, none⟩ = some (.slice (some ⟨b, off, none⟩) ts.length tc) ∧ w'.cell? ⟨b, off + k, none⟩ = some (.int .i64 z)) (go_keep) (first | (go_at_call 18; refine (rcheck_any ty z _).mono ?_; rintro e w3 ⟨rfl, rfl⟩))
              all_goals
                go_wp2_with fail
                go_meet
                exact ⟨rfl, grown_drew hg⟩
            case rest =>
              obtain ⟨rfl, hgx⟩ := hcut
              cases hcz : chk ty z with
              | true =>
                have HN : Hid ((ts.take (k + 1)).all (chk ty) = true) := all_step hlt HALL.out (by rw [← HZ.out]; exact hcz)
                clear hcz
                go_wp2
                go_roundw
                case rel => exact ⟨hgx, k + 1, by omega, by go_num, HN.out⟩
                case measure => simp [intOf]; omega
              | false =>
                have E : Hid (pbE ty ds ts = 4) := by show _ = _; rw [E2.out, all_not hlt (by rw [← HZ.out]; exact hcz)]; rfl
                clear hcz
                go_wp2
                go_ret
                exact ⟨by rw [E.out]; rfl, grown_trans g0 hgx⟩
          · obtain rfl : k = ts.length := by omega
            have E : Hid (pbE ty ds ts = 0) := by show _ = _; rw [E2.out, show ts.all (chk ty) = true by have := HALL.out; rwa [List.take_of_length_le (Nat.le_refl _)] at this]; rfl
            go_wp2
            go_ret
            exact ⟨by rw [E.out]; rfl, grown_trans g0 hg⟩
      · have hy' : ((ts.length : Int) != Y) = true := by simp [hy]
        have E2 : Hid (pbE ty ds ts = 4) := by show _ = _; rw [E1.out, if_pos hy]
        clear E1 hy
        go_wp2
        go_ret
        exact ⟨by rw [E2.out]; rfl, g0⟩
    · have h2 : (X == 0) = false := by simpa using hx
      have h3' : (X != 0) = true := by simp [bne, h2]
      have E1 : Hid (pbE ty ds ts = X) := by show _ = _; rw [E0.out, if_pos hx]
      clear E0 hx
      go_wp2
      go_ret
      exact ⟨by rw [E1.out]; rfl, g0⟩
end Go.Proofs.YteigfipgmghgmaaGreatDoor
