/- Reshape, by the walk. -/
import Derived.Test.YtankpkbneojgdaaVRow
import Derived.Test.YtankpkbneojgdaaSStr
namespace Go.Proofs.Ytankpkbneojgdaa
open Go.RowKit

/-- It is told whether p holds. -/
def Tells (p : Prop) (w : World) (e : Ending) (w' : World) : Prop := ∃ b, e = .returned (.bool b) ∧ (b = true ↔ p) ∧ w.grownBy w' none

/-- The strides, but of dimensions of 1, are those of the dimensions. -/
def PlainV (ds ss : List Int) : Prop := ∀ t, t < ds.length → ds.getD t 0 ≠ 1 → ss.getD t 0 = (strd ds).getD t 0

set_option maxHeartbeats 1600000 in
theorem isplain_any (v : Value) (off : Int) (ds ss : List Int) (w : World) (h : IsView w v off ds ss) (hm : MayV off ds ss) :
    Calls Try.prog 21 #[v] w (Tells (PlainV ds ss) w) := by
  obtain ⟨dv, sv, rfl, hd, hs, ho1, ho2⟩ := h
  have g0 := grown_new w (.cells #[.int .i64 off, dv, sv] 24)
  have b0 := hide (show (w.alloc (.cells #[.int .i64 off, dv, sv] 24)).heap[w.heap.size]? = some (.cells #[.int .i64 off, dv, sv] 24 (0, 0)) from heap_alloc_new w _)
  have c1 := strides_any dv ds _ (hd.more g0)
  rw [hm.fine.ok, show strdE ds = strd ds by simp [strdE, hm.fine.ok]] at c1
  have C1 := hide c1
  have HD := hide hd
  have HS := hide hs
  have hll : ds.length ≤ ss.length := by have := hm.len; omega
  have hls : ds.length ≤ (strd ds).length := by rw [strd_length]; omega
  obtain ⟨da, dc, rfl, hd1, hd2, hd3, -, -, -⟩ := hd
  obtain ⟨sa, sc, rfl, hs1, hs2, hs3, -, -, -⟩ := hs
  clear c1 hm
  go_enter Try.func21, Try.ntmps21
  go_wp2_with fail
  refine C1.out.mono ?_
  rintro e w1 ⟨s, rfl, os, hg1⟩
  have g1 := grown_trans g0 hg1
  have OS := hide os.ints
  obtain ⟨x0, x1, x2, -, -, -⟩ := box_cells (box_kept b0.out hg1)
  obtain ⟨pa, pc, rfl, hp1, hp2, hp3, -, -, -⟩ := os.ints
  clear os
  go_wp2
  go_loopw [16] (fun i wr => w1.grownBy wr none ∧ ∃ k : Nat, k ≤ ds.length ∧ i = .int .i64 k ∧ ∀ t, t < k → ds.getD t 0 ≠ 1 → ss.getD t 0 = (strd ds).getD t 0) (fun i _ => ds.length - (intOf i).toNat)
  case atStart => exact ⟨grown_refl _, 0, Nat.zero_le _, rfl, fun t h => absurd h (by omega)⟩
  case round =>
    obtain ⟨hw, k, hk, rfl, hp⟩ := hrel
    have HP := hide hp
    clear hp x0 x1 x2
    by_cases hkl : k < ds.length
    · have gr := grown_trans g1 hw
      obtain ⟨x0, x1, x2, -, -, -⟩ := box_cells (box_kept b0.out (grown_trans hg1 hw))
      obtain ⟨bd, od, rfl⟩ := addr_of HD.out (by omega)
      obtain ⟨bs, os, rfl⟩ := addr_of HS.out (by omega)
      obtain ⟨bp, op, hop⟩ := addr_of OS.out (by omega)
      subst hop
      have cd := item_at (HD.out.more gr) hkl
      have cs := item_at (HS.out.more gr) (k := k) (by omega)
      have cp := item_at (OS.out.more hw) (k := k) (by omega)
      have hks : k < ss.length := by omega
      have hkp : k < (strd ds).length := by omega
      obtain ⟨d, hdd⟩ : ∃ d, d = ds.getD k 0 := ⟨_, rfl⟩
      obtain ⟨s, hss⟩ : ∃ s, s = ss.getD k 0 := ⟨_, rfl⟩
      obtain ⟨p, hpp⟩ : ∃ p, p = (strd ds).getD k 0 := ⟨_, rfl⟩
      rw [← hdd] at cd
      rw [← hss] at cs
      rw [← hpp] at cp
      have HDD := hide hdd
      have HSS := hide hss
      have HPP := hide hpp
      clear hdd hss hpp
      by_cases h1 : d = 1
      · have t1 : (d != 1) = false := by simp [h1]
        have H1 := hide h1
        clear h1
        go_wp2
        go_region
        all_goals go_wp2
        all_goals
          go_roundw
          case rel =>
            refine ⟨grown_drew hw, k + 1, by omega, by go_num, fun t ht hne => ?_⟩
            rcases lt_succ_cases ht with h | rfl
            · exact HP.out t h hne
            · exact absurd (HDD.out.symm.trans H1.out) hne
          case measure => simp [intOf]; omega
      · have t1 : (d != 1) = true := by simp [h1]
        have H1 := hide h1
        clear h1
        by_cases h2 : s = p
        · have t2 : (s != p) = false := by simp [h2]
          have H2 := hide h2
          clear h2
          go_wp2
          go_region
          all_goals go_wp2
          all_goals
            go_roundw
            case rel =>
              refine ⟨grown_drew hw, k + 1, by omega, by go_num, fun t ht hne => ?_⟩
              rcases lt_succ_cases ht with h | rfl
              · exact HP.out t h hne
              · rw [← HSS.out, ← HPP.out, H2.out]
            case measure => simp [intOf]; omega
        · have t2 : (s != p) = true := by simp [h2]
          have H2 := hide h2
          clear h2
          have HF : Hid (¬ PlainV ds ss) := fun hP => H2.out (by rw [HSS.out, HPP.out]; exact hP k hkl (by rw [← HDD.out]; exact H1.out))
          go_wp2
          go_region
          all_goals go_wp2
          all_goals go_ret
          all_goals exact ⟨false, rfl, ⟨fun h => (by cases h), fun h => absurd h HF.out⟩, grown_trans g1 (grown_drew hw)⟩
    · have HT : Hid (PlainV ds ss) := fun t ht => HP.out t (by omega)
      go_wp2
      go_ret
      exact ⟨true, rfl, ⟨fun _ => HT.out, fun _ => rfl⟩, grown_trans g1 hw⟩

/-- What Reshape answers: error, and the view. -/
def Reshaped (off : Int) (ds ss l : List Int) (E : Int) (off' : Int) (ds' ss' : List Int) : Prop :=
  (¬ MayV off ds ss ∧ E = 1 ∧ off' = 0 ∧ ds' = [] ∧ ss' = []) ∨ (MayV off ds ss ∧ cntE l ≠ 0 ∧ E = cntE l ∧ off' = 0 ∧ ds' = [] ∧ ss' = []) ∨
  (MayV off ds ss ∧ Fine l ∧ prod ds ≠ prod l ∧ E = 4 ∧ off' = 0 ∧ ds' = [] ∧ ss' = []) ∨ (MayV off ds ss ∧ Fine l ∧ prod ds = prod l ∧ ¬ PlainV ds ss ∧ E = 1 ∧ off' = 0 ∧ ds' = [] ∧ ss' = []) ∨
  (MayV off ds ss ∧ Fine l ∧ prod ds = prod l ∧ PlainV ds ss ∧ E = 0 ∧ off' = off ∧ ds' = l ∧ ss' = strd l)

set_option maxHeartbeats 1600000 in
theorem reshape_any (v lv : Value) (off : Int) (ds ss l : List Int) (w : World) (h : IsView w v off ds ss) (hl : IsInts w lv l) :
    Calls Try.prog 7 #[v, lv] w fun e w' => ∃ u E off' ds' ss', e = .returned (.tuple #[u, .int .i64 E]) ∧ Reshaped off ds ss l E off' ds' ss' ∧ OwnView w' w.heap.size u off' ds' ss' ∧ w.grownBy w' none := by
  have hv := h
  obtain ⟨dv, sv, rfl, hd, hs, ho1, ho2⟩ := h
  obtain ⟨w0, hw0⟩ : ∃ w0, w0 = (w.alloc (.cells #[.int .i64 off, dv, sv] 24)).alloc (.cells #[.int .i64 0, .slice none 0 0, .slice none 0 0] 24) := ⟨_, rfl⟩
  have g0 : w.grownBy w0 none := by rw [hw0]; exact grown_trans (grown_new _ _) (grown_new _ _)
  have hs0 : w0.heap.size = w.heap.size + 2 := by rw [hw0]; simp
  have hbx := two_boxes w (.cells #[.int .i64 off, dv, sv] 24) (.cells #[.int .i64 0, .slice none 0 0, .slice none 0 0] 24)
  rw [← hw0] at hbx
  have BX : Hid (∀ wx, w0.grownBy wx none → wx.heap[w.heap.size]? = some (.cells #[.int .i64 off, dv, sv] 24 (0, 0)) ∧ wx.heap[w.heap.size + 1]? = some (.cells #[.int .i64 0, .slice none 0 0, .slice none 0 0] 24 (0, 0)) ∧ w.heap.size + 2 ≤ wx.heap.size) :=
    fun wx hg => ⟨box_kept hbx.1 hg, box_kept hbx.2 hg, by have := hg.size; omega⟩
  have MB := hide (mayBe_any _ off ds ss w0 (hv.more g0))
  have HV := hide hv
  have HD := hide hd
  have HL := hide hl
  obtain ⟨x0, x1, x2, -, -, -⟩ := box_cells hbx.1
  have FAIL : Hid (∀ wx, w0.grownBy wx none → (((wx.setCell ⟨w.heap.size + 1, 0, none⟩ (.int .i64 0)).setCell ⟨w.heap.size + 1, 1, none⟩ (.slice none 0 0)).setCell ⟨w.heap.size + 1, 2, none⟩ (.slice none 0 0)).heap[w.heap.size + 1]? = some (.cells #[.int .i64 0, .slice none 0 0, .slice none 0 0] 24 (0, 0)) ∧ w.grownBy (((wx.setCell ⟨w.heap.size + 1, 0, none⟩ (.int .i64 0)).setCell ⟨w.heap.size + 1, 1, none⟩ (.slice none 0 0)).setCell ⟨w.heap.size + 1, 2, none⟩ (.slice none 0 0)) none) := fun wx hg => by
    obtain ⟨hX, gX, _⟩ := store3 (.int .i64 0) (.slice none 0 0) (.slice none 0 0) (grown_trans g0 hg) (show w.heap.size ≤ w.heap.size + 1 by omega) (BX.out wx hg).2.1
    exact ⟨hX, gX⟩
  clear hv hbx hs hl hd
  by_cases hM : mayB off ds ss = true
  · rw [hM] at MB
    have HMV := hide (mayB_iff.1 hM)
    clear hM
    by_cases hE : cntE l = 0
    · have HF := hide (fine_of hE)
      by_cases hP : prod ds = prod l
      · go_enter Try.func7, Try.ntmps7
        go_wp2_with fail
        rw [← hw0]
        clear hw0
        refine MB.out.mono ?_
        rintro e w1 ⟨rfl, hg1⟩
        obtain ⟨y0, y1, y2, -, -, -⟩ := box_cells (BX.out w1 hg1).1
        have g1 := grown_trans g0 hg1
        have c1 := count_any lv l w1 (HL.out.more g1)
        have c2 := count_any dv ds w1 (HD.out.more g1)
        rw [hE, HF.out.cnt] at c1
        rw [HMV.out.fine.ok, HMV.out.fine.cnt, hP] at c2
        have C1 := hide c1
        have C2 := hide c2
        have C3 := hide (isplain_any _ off ds ss w1 (HV.out.more g1) HMV.out)
        obtain ⟨M, hMM⟩ : ∃ M, M = prod l := ⟨_, rfl⟩
        rw [← hMM] at C1 C2
        have HP := hide hP
        clear c1 c2 hE hP hMM x0 x1 x2
        go_wp2_with fail
        refine C1.out.mono ?_
        rintro e w' ⟨rfl, rfl⟩
        go_wp2_with fail
        refine C2.out.mono ?_
        rintro e w' ⟨rfl, rfl⟩
        go_wp2_with fail
        refine C3.out.mono ?_
        rintro e w2 ⟨b, rfl, hb, hg2⟩
        have g2 := grown_trans hg1 hg2
        obtain ⟨z0, z1, z2, -, -, -⟩ := box_cells (BX.out w2 g2).1
        cases b with
        | true =>
          have PP := hide (hb.1 rfl)
          have c4 := row_any off lv l w2 (HL.out.more (grown_trans g0 g2)) ho1 ho2
          rw [HF.out.ok, show rowOff off l = off by simp [rowOff, HF.out.ok], show rowDs l = l by simp [rowDs, HF.out.ok], show strdE l = strd l by simp [strdE, HF.out.ok]] at c4
          have C4 := hide c4
          have hsz := (BX.out w2 g2).2.2
          clear c4 hb y0 y1 y2
          go_wp2_with fail
          refine C4.out.mono ?_
          rintro e w3 ⟨u, rfl, ⟨d, s, rfl, od, os, _, _, ap⟩, hg3⟩
          have g3 := grown_trans g2 hg3
          obtain ⟨k0, k1, k2, f0, f1, f2⟩ := box_cells (BX.out w3 g3).2.1
          obtain ⟨HX, OV, GX⟩ := put_view (off := off) (base := w.heap.size + 2) (grown_trans g0 g3) (show w.heap.size ≤ w.heap.size + 1 by omega) (BX.out w3 g3).2.1 (od.base_le hsz) (os.base_le hsz) (by omega) ho1 ho2 ap
          obtain ⟨da, dc, rfl, -, -, -, -, -, -⟩ := od.ints
          obtain ⟨sa, sc, rfl, -, -, -, -, -, -⟩ := os.ints
          have HXX := hide HX
          have HOV := hide OV
          have HGX := hide GX
          clear HX OV GX od os ap
          go_wp2
          refine bodyPost_ret (ret_view rfl _ _ (w.heap.size + 1) rfl HXX.out) rfl ?_
          exact ⟨_, 0, off, _, _, rfl, Or.inr (Or.inr (Or.inr (Or.inr ⟨HMV.out, HF.out, HP.out, PP.out, rfl, rfl, rfl, rfl⟩))), HOV.out, HGX.out⟩
        | false =>
          have PP : Hid (¬ PlainV ds ss) := fun h => by have := hb.2 h; cases this
          obtain ⟨k0, k1, k2, f0, f1, f2⟩ := box_cells (BX.out w2 g2).2.1
          clear hb y0 y1 y2
          go_wp2
          refine bodyPost_ret (ret_view rfl _ _ (w.heap.size + 1) rfl (FAIL.out w2 g2).1) rfl ?_
          exact ⟨_, 1, 0, [], [], rfl, Or.inr (Or.inr (Or.inr (Or.inl ⟨HMV.out, HF.out, HP.out, PP.out, rfl, rfl, rfl, rfl⟩))), OwnView.nil _ _, (FAIL.out w2 g2).2⟩
      · have hP' : (prod ds != prod l) = true := by simp [hP]
        have HP := hide hP
        go_enter Try.func7, Try.ntmps7
        go_wp2_with fail
        rw [← hw0]
        clear hw0
        refine MB.out.mono ?_
        rintro e w1 ⟨rfl, hg1⟩
        obtain ⟨y0, y1, y2, -, -, -⟩ := box_cells (BX.out w1 hg1).1
        obtain ⟨k0, k1, k2, f0, f1, f2⟩ := box_cells (BX.out w1 hg1).2.1
        have g1 := grown_trans g0 hg1
        have c1 := count_any lv l w1 (HL.out.more g1)
        have c2 := count_any dv ds w1 (HD.out.more g1)
        rw [hE, HF.out.cnt] at c1
        rw [HMV.out.fine.ok, HMV.out.fine.cnt] at c2
        have C1 := hide c1
        have C2 := hide c2
        obtain ⟨M, hMM⟩ : ∃ M, M = prod l := ⟨_, rfl⟩
        obtain ⟨K, hKK⟩ : ∃ K, K = prod ds := ⟨_, rfl⟩
        rw [← hMM] at C1 hP'
        rw [← hKK] at C2 hP'
        clear c1 c2 hE hP hMM hKK x0 x1 x2
        go_wp2_with fail
        refine C1.out.mono ?_
        rintro e w' ⟨rfl, rfl⟩
        go_wp2_with fail
        refine C2.out.mono ?_
        rintro e w' ⟨rfl, rfl⟩
        go_wp2
        refine bodyPost_ret (ret_view rfl _ _ (w.heap.size + 1) rfl (FAIL.out w1 hg1).1) rfl ?_
        exact ⟨_, 4, 0, [], [], rfl, Or.inr (Or.inr (Or.inl ⟨HMV.out, HF.out, HP.out, rfl, rfl, rfl, rfl⟩)), OwnView.nil _ _, (FAIL.out w1 hg1).2⟩
    · have hE' := beq_zero_false hE
      have HE := hide hE
      go_enter Try.func7, Try.ntmps7
      go_wp2_with fail
      rw [← hw0]
      clear hw0
      refine MB.out.mono ?_
      rintro e w1 ⟨rfl, hg1⟩
      obtain ⟨y0, y1, y2, -, -, -⟩ := box_cells (BX.out w1 hg1).1
      obtain ⟨k0, k1, k2, f0, f1, f2⟩ := box_cells (BX.out w1 hg1).2.1
      have C1 := hide (count_any lv l w1 (HL.out.more (grown_trans g0 hg1)))
      obtain ⟨E, hEE⟩ : ∃ E, E = cntE l := ⟨_, rfl⟩
      rw [← hEE] at C1 hE'
      have HEE := hide hEE
      clear hE hEE x0 x1 x2
      go_wp2_with fail
      refine C1.out.mono ?_
      rintro e w' ⟨rfl, rfl⟩
      go_wp2
      refine bodyPost_ret (ret_view rfl _ _ (w.heap.size + 1) rfl (FAIL.out w1 hg1).1) rfl ?_
      exact ⟨_, E, 0, [], [], rfl, Or.inr (Or.inl ⟨HMV.out, HE.out, HEE.out, rfl, rfl, rfl⟩), OwnView.nil _ _, (FAIL.out w1 hg1).2⟩
  · have hM' : mayB off ds ss = false := by simpa using hM
    have HNM : Hid (¬ MayV off ds ss) := fun h => hM (mayB_iff.2 h)
    rw [hM'] at MB
    clear hM hM'
    go_enter Try.func7, Try.ntmps7
    go_wp2_with fail
    rw [← hw0]
    clear hw0
    refine MB.out.mono ?_
    rintro e w1 ⟨rfl, hg1⟩
    obtain ⟨k0, k1, k2, f0, f1, f2⟩ := box_cells (BX.out w1 hg1).2.1
    go_wp2
    refine bodyPost_ret (ret_view rfl _ _ (w.heap.size + 1) rfl (FAIL.out w1 hg1).1) rfl ?_
    exact ⟨_, 1, 0, [], [], rfl, Or.inl ⟨HNM.out, rfl, rfl, rfl, rfl⟩, OwnView.nil _ _, (FAIL.out w1 hg1).2⟩
end Go.Proofs.Ytankpkbneojgdaa
