/- A field's bytes appended: appendField, by the walk. -/
import Derived.Test.YtoadpjegdhlphaaWRow
namespace Go.Proofs.Ytoadpjegdhlphaa
open Go.RowKit

theorem bytes_cells (s : ByteArray) : Lib.strCells s = (bytesOf s).flatMap bcells := by
  rw [bcells_flat]
  unfold bytesOf Lib.strCells
  rw [List.map_map]
  rfl

set_option maxRecDepth 100000 in
set_option maxHeartbeats 3200000 in
theorem appendField_any (v0 : Value) (xs0 : List Nat) (x : Fld) (base : Nat) (w : World) (h : OwnsB w base v0 xs0) (hb : base ≤ w.heap.size) (hx : fok x = true) (hin : FldIn x) (hl : xs0.length + x.b.size ≤ 1099511627000) :
    Calls Try.prog 31 #[v0, fval x] w fun e w' => ∃ v', e = .returned v' ∧ OwnsB w' base v' (xs0 ++ fb x) ∧ Below base w w' ∧ w.heap.size ≤ w'.heap.size := by
  obtain ⟨i0, hi, hz0, hz1, hz2⟩ := info_parts infoByte
  have T := hide (fun wx => tag_any x wx hx)
  have tl := tag_lt hx
  have A1 := hide (fun wx hw hz => appendVarintK_any v0 xs0 (tagOf x) base wx hw hz (by omega) (by omega))
  have b1 := vbF_len 10 (tagOf x)
  change 1 ≤ (vb (tagOf x)).length ∧ (vb (tagOf x)).length ≤ 11 at b1
  have hk := fok_kind hx
  obtain ⟨h1, h2, h3, h4, h5, h6, h7⟩ := hin
  have hfb : Hid (fb x = vb (tagOf x) ++ tailOf x) := rfl
  obtain ⟨T0, hT0⟩ : ∃ T0, T0 = vb (tagOf x) := ⟨_, rfl⟩
  rw [← hT0] at A1 b1 hfb
  obtain ⟨ao, cap, rfl⟩ := h.form
  have H0 := hide h
  have hlen : xs0.length + T0.length ≤ 1099511627711 := by omega
  obtain ⟨num, kind, u, b⟩ := x
  obtain ⟨m, rfl⟩ : ∃ m : Nat, u = m := ⟨u.toNat, by simp only at h5; omega⟩
  have hm : m < 18446744073709551616 := by simp only at h6; omega
  simp only [fval] at *
  clear tl hT0 h1 h2 h3 h4 h h5 h6
  rcases hk with ⟨rfl, hb'⟩ | ⟨rfl, hb'⟩ | ⟨rfl, hb', hu⟩ | ⟨rfl, hu⟩
  · go_enter Try.func31, Try.ntmps31
    go_wp2_with fail
    refine (T.out _).mono ?_
    rintro e w1 ⟨rfl, g1⟩
    go_wp2_with fail
    have G1 := grown_trans (grown_new _ _) g1
    refine (A1.out _ (H0.out.more G1) (Nat.le_trans hb G1.size)).mono ?_
    rintro e w2 ⟨v2, rfl, o2, rk2⟩
    have q1 := (g1.block _ (by simp) (by simp)).trans (heap_alloc_new w _)
    have hlt1 : w.heap.size < w1.heap.size := World.block_lt_of_cell? w1 ⟨w.heap.size, 0, none⟩ (box4 q1).1
    have q2 := (rk2.1.block _ hlt1 (fun e => by have := World.ownsRow.lt H0.out _ e.symm; omega)).trans q1
    obtain ⟨c0, c1, c2, c3, -, -, -, -⟩ := box4 q2
    obtain ⟨Y, hY⟩ : ∃ Y, Y = xs0 ++ T0 := ⟨_, rfl⟩
    rw [← hY] at o2
    have hYl : Y.length ≤ xs0.length + 11 := by rw [hY, List.length_append]; omega
    have HY := hide hY
    clear hY
    obtain ⟨ao2, cap2, rfl⟩ := o2.form
    have O2 := hide o2
    have R2 := hide ((RowK.more G1 _).trans rk2)
    have R12 := hide rk2
    have Q2 := hide q2
    have z2 := rk2.1.size
    clear o2 rk2 q1 q2
    have A2 := hide (appendVarintK_any _ _ m base w2 O2.out (by omega) hm (by omega))
    go_wp2_with fail
    refine A2.out.mono ?_
    rintro e w3 ⟨v3, rfl, o3, rk3⟩
    go_wp2
    go_ret
    have R3 := R2.out.trans rk3
    refine ⟨_, rfl, ?_, R3.below H0.out hb, R3.1.size⟩
    rw [hfb.out, ← List.append_assoc, ← HY.out]
    simpa [tailOf] using o3
  · go_enter Try.func31, Try.ntmps31
    go_wp2_with fail
    refine (T.out _).mono ?_
    rintro e w1 ⟨rfl, g1⟩
    go_wp2_with fail
    have G1 := grown_trans (grown_new _ _) g1
    refine (A1.out _ (H0.out.more G1) (Nat.le_trans hb G1.size)).mono ?_
    rintro e w2 ⟨v2, rfl, o2, rk2⟩
    have q1 := (g1.block _ (by simp) (by simp)).trans (heap_alloc_new w _)
    have hlt1 : w.heap.size < w1.heap.size := World.block_lt_of_cell? w1 ⟨w.heap.size, 0, none⟩ (box4 q1).1
    have q2 := (rk2.1.block _ hlt1 (fun e => by have := World.ownsRow.lt H0.out _ e.symm; omega)).trans q1
    obtain ⟨c0, c1, c2, c3, -, -, -, -⟩ := box4 q2
    obtain ⟨Y, hY⟩ : ∃ Y, Y = xs0 ++ T0 := ⟨_, rfl⟩
    rw [← hY] at o2
    have hYl : Y.length ≤ xs0.length + 11 := by rw [hY, List.length_append]; omega
    have HY := hide hY
    clear hY
    obtain ⟨ao2, cap2, rfl⟩ := o2.form
    have O2 := hide o2
    have R2 := hide ((RowK.more G1 _).trans rk2)
    have R12 := hide rk2
    have Q2 := hide q2
    have z2 := rk2.1.size
    clear o2 rk2 q1 q2
    have A2 := hide (appendFixedK_any _ _ m 8 base w2 O2.out (by omega) (by omega) (by omega))
    go_wp2_with fail
    refine A2.out.mono ?_
    rintro e w3 ⟨v3, rfl, o3, rk3⟩
    go_wp2
    go_ret
    have R3 := R2.out.trans rk3
    refine ⟨_, rfl, ?_, R3.below H0.out hb, R3.1.size⟩
    rw [hfb.out, ← List.append_assoc, ← HY.out]
    simpa [tailOf] using o3
  · go_enter Try.func31, Try.ntmps31
    go_wp2_with fail
    refine (T.out _).mono ?_
    rintro e w1 ⟨rfl, g1⟩
    go_wp2_with fail
    have G1 := grown_trans (grown_new _ _) g1
    refine (A1.out _ (H0.out.more G1) (Nat.le_trans hb G1.size)).mono ?_
    rintro e w2 ⟨v2, rfl, o2, rk2⟩
    have q1 := (g1.block _ (by simp) (by simp)).trans (heap_alloc_new w _)
    have hlt1 : w.heap.size < w1.heap.size := World.block_lt_of_cell? w1 ⟨w.heap.size, 0, none⟩ (box4 q1).1
    have q2 := (rk2.1.block _ hlt1 (fun e => by have := World.ownsRow.lt H0.out _ e.symm; omega)).trans q1
    obtain ⟨c0, c1, c2, c3, -, -, -, -⟩ := box4 q2
    obtain ⟨Y, hY⟩ : ∃ Y, Y = xs0 ++ T0 := ⟨_, rfl⟩
    rw [← hY] at o2
    have hYl : Y.length ≤ xs0.length + 11 := by rw [hY, List.length_append]; omega
    have HY := hide hY
    clear hY
    obtain ⟨ao2, cap2, rfl⟩ := o2.form
    have O2 := hide o2
    have R2 := hide ((RowK.more G1 _).trans rk2)
    have R12 := hide rk2
    have Q2 := hide q2
    have z2 := rk2.1.size
    clear o2 rk2 q1 q2
    have A2 := hide (appendFixedK_any _ _ m 4 base w2 O2.out (by omega) (by omega) (by omega))
    go_wp2_with fail
    refine A2.out.mono ?_
    rintro e w3 ⟨v3, rfl, o3, rk3⟩
    go_wp2
    go_ret
    have R3 := R2.out.trans rk3
    refine ⟨_, rfl, ?_, R3.below H0.out hb, R3.1.size⟩
    rw [hfb.out, ← List.append_assoc, ← HY.out]
    simpa [tailOf] using o3
  · clear hu
    go_enter Try.func31, Try.ntmps31
    go_wp2_with fail
    refine (T.out _).mono ?_
    rintro e w1 ⟨rfl, g1⟩
    go_wp2_with fail
    have G1 := grown_trans (grown_new _ _) g1
    refine (A1.out _ (H0.out.more G1) (Nat.le_trans hb G1.size)).mono ?_
    rintro e w2 ⟨v2, rfl, o2, rk2⟩
    have q1 := (g1.block _ (by simp) (by simp)).trans (heap_alloc_new w _)
    have hlt1 : w.heap.size < w1.heap.size := World.block_lt_of_cell? w1 ⟨w.heap.size, 0, none⟩ (box4 q1).1
    have q2 := (rk2.1.block _ hlt1 (fun e => by have := World.ownsRow.lt H0.out _ e.symm; omega)).trans q1
    obtain ⟨c0, c1, c2, c3, -, -, -, -⟩ := box4 q2
    obtain ⟨Y, hY⟩ : ∃ Y, Y = xs0 ++ T0 := ⟨_, rfl⟩
    rw [← hY] at o2
    have hYl : Y.length ≤ xs0.length + 11 := by rw [hY, List.length_append]; omega
    have HY := hide hY
    clear hY
    obtain ⟨ao2, cap2, rfl⟩ := o2.form
    have O2 := hide o2
    have R2 := hide ((RowK.more G1 _).trans rk2)
    have R12 := hide rk2
    have Q2 := hide q2
    have z2 := rk2.1.size
    clear o2 rk2 q1 q2
    have A2 := hide (appendVarintK_any _ _ b.size base w2 O2.out (by omega) (by omega) (by omega))
    go_wp2_with fail
    refine A2.out.mono ?_
    rintro e w3 ⟨v3, rfl, o3, rk3⟩
    obtain ⟨Z, hZ⟩ : ∃ Z, Z = Y ++ vb b.size := ⟨_, rfl⟩
    rw [← hZ] at o3
    have b3 := vbF_len 10 b.size
    change 1 ≤ (vb b.size).length ∧ (vb b.size).length ≤ 11 at b3
    have hZl : Z.length ≤ xs0.length + 22 := by rw [hZ, List.length_append]; omega
    have HZ := hide hZ
    clear hZ b3
    have hlt2 : w.heap.size < w2.heap.size := by omega
    have q3 := (rk3.1.block _ hlt2 (fun e => ?_)).trans Q2.out
    · obtain ⟨d0, d1, d2, d3, -, -, -, -⟩ := box4 q3
      obtain ⟨ao3, cap3, rfl⟩ := o3.form
      have O3 := hide o3
      have R3 := hide (R2.out.trans rk3)
      have z3 := rk3.1.size
      clear o3 rk3 q3 c0 c1 c2 c3
      go_wp2_with (at_builtin; refine Lib.wpList_append_own_string _ rfl (.tmp 35) (.tmp 37) 48 9 rfl base 5 i0 Try.underlying48 Try.underlying9 hi hz0 hz1 hz2 _ _ _ rfl O3.out b rfl ?_ ?_ ?_ ?_; (simp only [maxLen]; omega); omega; omega; intro v4 w4 o4 g4 _)
      go_ret
      refine ⟨_, rfl, ?_, (R3.out.below H0.out hb).trans (below_own O3.out (by omega) g4), by have := R3.out.1.size; have := g4.size; omega⟩
      have e : xs0 ++ fb ⟨num, 2, m, b⟩ = Z ++ bytesOf b := by rw [hfb.out, HZ.out, HY.out]; simp [tailOf]
      rw [e]
      unfold OwnsB OwnsL
      rw [bytes_cells] at o4
      rw [List.flatMap_append, List.length_append, bytesOf_len]
      exact o4
    · have h0 := World.ownsRow.lt H0.out
      rcases R12.out.2 with h1 | ⟨g, h1, hg⟩
      · have := h0 _ (h1.symm.trans e.symm)
        omega
      · rw [h1] at e
        cases e
        omega
end Go.Proofs.Ytoadpjegdhlphaa
