/- Law LinearOne, by the walk. -/
import Derived.Test.YtghokdcolmaamaaGreatDoorPartX
import Derived.Test.YtghokdcolmaamaaGreatDoorLnOnePJ
import Derived.Test.YtghokdcolmaamaaGreatDoorLnCopyJ
namespace Go.Proofs.YtghokdcolmaamaaGreatDoor
open Go.RowKit

/-- No NaN and no infinity, as the law asks it. -/
def Nm (z : Int) : Prop := (bits BinOp.and IntKind.i64 z 2139095040 == 2139095040) = false

theorem nm_fin {z : Int} (h : Nm z) (hc : Nu.chk 1 z = true) : fin z := by
  unfold Nu.chk at hc
  simp only [if_true, decide_eq_true_eq] at hc
  unfold fin
  by_cases h1 : z = 2143289344
  · subst h1
    exact absurd h (by unfold Nm; decide +kernel)
  · by_cases h2 : z = 2139095040
    · subst h2
      exact absurd h (by unfold Nm; decide +kernel)
    · by_cases h3 : z = 4286578688
      · subst h3
        exact absurd h (by unfold Nm; decide +kernel)
      · omega

theorem set_same {l : List Int} {i : Nat} (h : i < l.length) : l.set i (l.getD i 0) = l := by
  refine List.ext_getElem (by simp) fun j h1 h2 => ?_
  rw [List.getElem_set]
  split
  · rename_i e
    subst e
    simp [List.getD, h]
  · rfl

theorem nz_mm (t0 t1 : Int) (x y xs ys : List Int) : ∀ c, mmR t0 t1 x y xs ys = .error c → c ≠ 0 := by
  intro c h
  unfold mmR doR at h
  split at h
  · cases h
  · rename_i c' hn
    cases h
    exact nz_node (nz_outM _ _ _ _ _ (nz_product _ _)) _ hn

def nrmL (xs : List Int) (t : Nat) : List Int := (xs.take t).map normF ++ xs.drop t

theorem nrmL_len (xs : List Int) (t : Nat) : (nrmL xs t).length = xs.length := by
  unfold nrmL
  rw [List.length_append, List.length_map, ← List.length_append, List.take_append_drop]

theorem nrm_step {xs : List Int} {t : Nat} (h : t < xs.length) : (nrmL xs t).set t (normF (xs.getD t 0)) = nrmL xs (t + 1) := by
  unfold nrmL
  have hl : ((xs.take t).map normF).length = t := by rw [List.length_map, List.length_take]; omega
  rw [List.set_append_right _ _ (by omega), hl, Nat.sub_self, List.drop_eq_getElem_cons h, List.set_cons_zero, List.take_add_one, List.getElem?_eq_getElem h, Option.toList_some, List.map_append, List.append_assoc]
  simp [List.getD, h]

theorem nrm_at {xs : List Int} {t : Nat} (h : t < xs.length) : (nrmL xs t).getD t 0 = xs.getD t 0 := by
  unfold nrmL
  have hl : ((xs.take t).map normF).length = t := by rw [List.length_map, List.length_take]; omega
  rw [List.getD, List.getElem?_append_right (by omega), hl, Nat.sub_self, List.getElem?_drop]
  rfl

theorem nrm_same {xs : List Int} {t : Nat} (h : t < xs.length) (hz : normF (xs.getD t 0) = xs.getD t 0) : nrmL xs t = nrmL xs (t + 1) := by
  rw [← nrm_step h, hz, ← nrm_at h, set_same (by rw [nrmL_len]; exact h)]


set_option maxRecDepth 100000 in
set_option maxHeartbeats 16000000 in
theorem linearOne_walk (X : Ten) {x xs : List Int} (w : World) (hl : Laid w) (hx : IsInts w X.dv.v x) (hxs : IsInts w X.tv.v xs) : Calls Tryz.prog 3 #[tval X] w fun e w' => e = .returned (.bool true) ∧ Below w.heap.size w w' := by
  have HL := hide hl
  have HX := hide hx
  have HXS := hide hxs
  obtain ⟨_, _, ex, -⟩ := hx.sl
  obtain ⟨_, _, es, -⟩ := hxs.sl
  clear hl hx hxs
  obtain ⟨tx, ⟨xa, xn, xc⟩, ⟨ua, un, uc⟩⟩ := X
  simp only [Sl.v, Value.slice.injEq] at ex es
  obtain ⟨-, rfl, -⟩ := ex
  obtain ⟨-, rfl, -⟩ := es
  unfold tval
  simp only [Sl.v] at HX HXS ⊢
  obtain ⟨w0, hw0⟩ : ∃ w0, w0 = w.alloc (.cells #[.int .i64 tx, .slice xa x.length xc, .slice ua xs.length uc] 25) := ⟨_, rfl⟩
  obtain ⟨b0, z0⟩ := new_alloc (.cells #[.int .i64 tx, .slice xa x.length xc, .slice ua xs.length uc] 25) (x := w) rfl
  rw [← hw0] at b0 z0
  have g0 : w.grownBy w0 none := by rw [hw0]; exact grown_new _ _
  have G0 := hide g0
  have BX : Hid (∀ wx, w0.grownBy wx none → wx.heap[w.heap.size]? = some (.cells #[.int .i64 tx, .slice xa x.length xc, .slice ua xs.length uc] 25 (0, 0))) := fun wx hx => box_kept b0 hx
  have LV : Hid (∀ wx, w.grownBy wx none → Calls Tryz.prog 9 #[] wx fun e w' => e = .returned (.bool true) ∧ wx.grownBy w' none) := fun wx hx => live12_any wx (HL.out.more hx)
  obtain ⟨wS, hwS⟩ : ∃ wS, wS = w0.alloc (.cells #[.int .i64 tx, .slice xa x.length xc, .slice ua xs.length uc] 25) := ⟨_, rfl⟩
  obtain ⟨bS, -⟩ := new_alloc (.cells #[.int .i64 tx, .slice xa x.length xc, .slice ua xs.length uc] 25) z0
  rw [← hwS] at bS
  have gS : w0.grownBy wS none := by rw [hwS]; exact grown_new _ _
  have GS := hide (grown_trans g0 gS)
  have GS0 := hide gS
  have SM := hide (small12_any ⟨some ⟨w.heap.size + 1, 0, none⟩, 1, 1⟩ _ wS (one_ten ⟨tx, ⟨xa, x.length, xc⟩, ⟨ua, xs.length, uc⟩⟩ bS (HX.out.more GS.out) (HXS.out.more GS.out)))
  simp only at SM
  obtain ⟨x0, x1, x2⟩ := ten_cells b0
  rw [hw0] at x0 x1 x2
  clear b0 bS z0 g0 gS
  go_enter Tryz.func3, Tryz.ntmps3
  go_wp2_with fail
  rw [← hw0, ← hwS]
  clear hw0 hwS x0 x1 x2
  refine SM.out.mono ?_
  rintro e w1 ⟨bb, rfl, hg1⟩
  have G1 := hide (grown_trans GS.out hg1)
  have G01 := hide (grown_trans GS0.out hg1)
  have L1 := hide (LV.out w1 G1.out)
  obtain ⟨x0, x1, x2⟩ := ten_cells (BX.out w1 G01.out)
  clear hg1 SM
  by_cases hgo : bb = true ∧ x.length = 2
  · obtain ⟨rfl, h2⟩ := hgo
    have b1 : ((x.length : Int) != 2) = false := by simp [h2]
    obtain ⟨xb, xo, rfl, hc⟩ := HX.out.get (k := 1) (by omega)
    have d1 := cell_still (hc 1 (by omega)) G1.out
    have X2 := hide h2
    have HC1 := hide (hc 1 (by omega))
    obtain ⟨dd, hdd⟩ : ∃ dd, dd = x.getD 1 0 := ⟨_, rfl⟩
    rw [← hdd] at d1 HC1
    have HDD := hide hdd
    have m1 : 1 < x.length := by omega
    have m1' : (1 : Int) < (x.length : Int) := by omega
    clear hc hdd h2
    by_cases hd : 1 ≤ dd ∧ dd ≤ 24
    · have e1 : ¬ dd < 1 := by omega
      have e2 : ¬ 24 < dd := by omega
      obtain ⟨d, rfl⟩ : ∃ d : Nat, dd = d := ⟨dd.toNat, by omega⟩
      have xle := HXS.out.le
      have hd1 : 1 ≤ d := by omega
      have hd2 : d ≤ 24 := by omega
      have CP := hide (copyten_own tx (.slice (some ⟨xb, xo, none⟩) x.length xc) (.slice ua xs.length uc) x xs w1 (HX.out.more G1.out) (HXS.out.more G1.out))
      clear hd
      go_wp2_with fail
      refine CP.out.mono ?_
      rintro e w2 ⟨⟨da, dn, dc⟩, ⟨ta, tn, tc⟩, rfl, hd2', ht2, nd, nt, apd, hg2⟩
      obtain ⟨_, _, et, -⟩ := ht2.ints.sl
      simp only [Sl.v, Value.slice.injEq] at et
      obtain ⟨-, etn, -⟩ := et
      subst etn
      simp only [Sl.v] at hd2' ht2 ⊢
      obtain ⟨w3, hw3⟩ : ∃ w3, w3 = w2.alloc (.cells #[.int .i64 tx, .slice da dn dc, .slice ta xs.length tc] 25) := ⟨_, rfl⟩
      have b3 := heap_alloc_new w2 (.cells #[.int .i64 tx, .slice da dn dc, .slice ta xs.length tc] 25)
      rw [← hw3] at b3
      have g3 : w2.grownBy w3 none := by rw [hw3]; exact grown_new _ _
      have O3 := hide (ht2.more g3 (by cases (Value.slice ta xs.length tc).ownBlock <;> simp))
      have HD3 := hide (hd2'.more g3)
      have APD := hide apd
      have G13 := hide (grown_trans hg2 g3)
      have G03 := hide (grown_trans G01.out (grown_trans hg2 g3))
      have GW3 := hide (grown_trans G1.out (grown_trans hg2 g3))
      have AP := hide (own_apart O3.out.1 b3 (by decide))
      have B3 : Hid (∀ wx, w3.grownBy wx (Value.slice ta xs.length tc).ownBlock → wx.heap[w2.heap.size]? = some (.cells #[.int .i64 tx, .slice da dn dc, .slice ta xs.length tc] 25 (0, 0))) := fun wx hx => by
        rw [← b3]
        refine hx.block _ (Array.getElem?_eq_some_iff.1 b3).1 (fun e => ?_)
        rcases AP.out with h | h
        · rw [h] at e; cases e
        · exact h e.symm
      have UP : Hid (∀ {v wx : World}, v.heap.size ≤ w1.heap.size → v.grownBy w3 none → w3.grownBy wx (Value.slice ta xs.length tc).ownBlock → v.grownBy wx none) := fun {v wx} hv h1 h2 => grown_trans_row h1 h2 (fun g e => by have := (World.ownsRow.lt O3.out.1 g e).1; omega)
      have S01 : Hid (w0.heap.size ≤ w1.heap.size) := G01.out.size
      have SW1 : Hid (w.heap.size ≤ w1.heap.size) := G1.out.size
      obtain ⟨Q, hQ⟩ : ∃ Q, Q = w2.heap.size := ⟨_, rfl⟩
      rw [← hQ] at B3
      have HQ := hide hQ
      clear b3 g3 hg2 hd2' ht2 nd nt CP AP apd
      go_wp2_with fail
      rw [← hw3, ← hQ]
      clear hw3 hQ x0 x1 x2 d1
      go_loopw [5] (fun i wr => w3.grownBy wr (Value.slice ta xs.length tc).ownBlock ∧ ∃ t : Nat, t ≤ xs.length ∧ i = .int .i64 t ∧ OwnsE wr w1.heap.size (.slice ta xs.length tc) (nrmL xs t) ∧ ∀ z ∈ xs.take t, Nm z) (fun i _ => xs.length - (intOf i).toNat)
      case atStart => exact ⟨World.grownBy.refl _ _, 0, Nat.zero_le _, rfl, by simpa [nrmL] using O3.out, fun z hz => by simp at hz⟩
      case round =>
        obtain ⟨hgr, t, htl, rfl, ho, hnm⟩ := hrel
        have HGr := hide hgr
        have HOr := hide ho
        have HNM := hide hnm
        have GWr := hide (UP.out SW1.out GW3.out hgr)
        have G0r := hide (UP.out S01.out G03.out hgr)
        obtain ⟨x0, x1, x2⟩ := ten_cells (BX.out wr G0r.out)
        clear hgr ho hnm
        by_cases hlt : t < xs.length
        · obtain ⟨ub, uo, rfl, hcz⟩ := HXS.out.get (k := t) hlt
          have cz := cell_still (hcz t hlt) GWr.out
          obtain ⟨z, hz⟩ : ∃ z, z = xs.getD t 0 := ⟨_, rfl⟩
          rw [← hz] at cz
          have HZ := hide hz
          clear hcz hz
          have LR := hide (LV.out wr GWr.out)
          have tl : (t : Int) < (xs.length : Int) := by omega
          by_cases hb : (bits BinOp.and IntKind.i64 z 2139095040 == 2139095040) = true
          · go_wp2_with fail
            refine LR.out.mono ?_
            rintro e w4 ⟨rfl, hg4⟩
            go_wp2
            go_ret
            exact ⟨rfl, grown_below (grown_trans GWr.out hg4)⟩
          · have hb' : (bits BinOp.and IntKind.i64 z 2139095040 == 2139095040) = false := by simpa using hb
            have NN : Hid (∀ q ∈ xs.take (t + 1), Nm q) := by
              show ∀ q ∈ xs.take (t + 1), Nm q
              intro q hq
              rw [List.take_add_one, List.getElem?_eq_getElem hlt, Option.toList_some] at hq
              rcases List.mem_append.1 hq with hq | hq
              · exact HNM.out q hq
              · rw [List.mem_singleton.1 hq]
                have e : z = xs[t] := by rw [HZ.out]; simp [List.getD, hlt]
                rw [← e]
                exact hb'
            clear hb
            by_cases hm : z = 2147483648
            · have hm' : (z == 2147483648) = true := by simp [hm]
              obtain ⟨y0, y1, y2⟩ := ten_cells (B3.out wr HGr.out)
              obtain ⟨g, ⟨gc, eg⟩, -, -⟩ := ownsE_cells HOr.out (by rw [nrmL_len]; omega)
              simp only [Value.slice.injEq] at eg
              obtain ⟨rfl, -, -⟩ := eg
              obtain ⟨q1, q2, q3, q4⟩ := HOr.out.put (nrmL_len _ _) hlt 0 (by omega)
              rw [show (0 : Int) = normF (xs.getD t 0) from by rw [← HZ.out, hm]; rfl, nrm_step hlt] at q3
              rw [show normF (xs.getD t 0) = (0 : Int) from by rw [← HZ.out, hm]; rfl] at q3
              have N3 := hide q3
              have N4 := hide (grown_same HGr.out q4)
              obtain ⟨ov, hov⟩ : ∃ q, q = (nrmL xs t).getD t 0 := ⟨_, rfl⟩
              rw [← hov] at q1
              clear q3 q4 hov hm
              go_wp2_with fail
              go_roundw
              case rel => exact ⟨N4.out, t + 1, hlt, by go_num, N3.out, NN.out⟩
              case measure => simp [intOf]; omega
            · have hm' : (z == 2147483648) = false := by simpa using hm
              have OS : Hid (OwnsE wr w1.heap.size (.slice ta xs.length tc) (nrmL xs (t + 1))) := by
                show OwnsE _ _ _ _
                rw [← nrm_same hlt (by rw [← HZ.out]; unfold normF; rw [if_neg hm])]
                exact HOr.out
              clear hm
              go_wp2_with fail
              go_roundw
              case rel => exact ⟨HGr.out, t + 1, hlt, by go_num, OS.out, NN.out⟩
              case measure => simp [intOf]; omega
        · obtain rfl : t = xs.length := by omega
          have EQ : Hid (nrmL xs xs.length = xs.map normF) := by show _ = _; unfold nrmL; rw [List.take_of_length_le (Nat.le_refl _), List.drop_of_length_le (Nat.le_refl _), List.append_nil]
          have NA : Hid (∀ z ∈ xs, Nm z) := by
            have h := HNM.out
            rw [List.take_of_length_le (Nat.le_refl _)] at h
            exact h
          have HDV : Hid (IsInts wr (.slice da dn dc) x) := HD3.out.kept (fun b hb hv => HGr.out.block b hb (fun e => APD.out b hv e.symm))
          have OW := hide HOr.out
          rw [EQ.out] at OW
          obtain ⟨v0, hv0⟩ : ∃ v0, v0 = wr := ⟨_, rfl⟩
          obtain rfl := hv0
          obtain ⟨D, hD⟩ : ∃ D, D = d * d := ⟨_, rfl⟩
          have hD2 : D ≤ 576 := by rw [hD]; exact Nat.mul_le_mul hd2 hd2
          obtain ⟨i0, hi0, hz0, hz1, hz2⟩ := info_parts info64E
          have hb4 : i0.bytes * D ≤ 281474976710656 := by rw [hz2]; omega
          have hb5 : D ≤ maxLen := by simp only [maxLen]; omega
          have hb6 : v0.heap.size ≤ (v0.alloc (.cells #[.int .i64 d, .int .i64 d] 3)).heap.size := by simp
          obtain ⟨vA, hvA⟩ : ∃ vA, vA = v0.alloc (.cells #[.int .i64 d, .int .i64 d] 3) := ⟨_, rfl⟩
          have bA := heap_alloc_new v0 (.cells #[.int .i64 d, .int .i64 d] 3)
          rw [← hvA] at bA
          have gA : v0.grownBy vA none := by rw [hvA]; exact grown_new _ _
          have ZA : Hid (vA.heap.size = v0.heap.size + 1) := by show _ = _; rw [hvA]; simp
          have HDD2 := hide hD
          have wD : wrap64 ((d : Int) * (d : Int)) = (D : Int) := by
            rw [← Int.natCast_mul, ← hD]
            exact wrap64_id (Int.natCast_nonneg _) (Int.ofNat_le.2 (Nat.le_trans hD2 (by decide)))
          clear hD htl hlt
          go_wp2_with (refine wpList_make_full _ rfl (.tmp 71) (.tmp 71) 23 rfl v0.heap.size 2 i0 (.int .i64 0) 1 Tryz.underlying23 hi0 hz0 hz1 .i64 .i64 _ _ D rfl rfl (by first | rfl | exact wD) (by first | rfl | exact wD) hb4 hb5 hb6 ?_; intro vB hownB hgB)
          rw [← hvA] at hgB
          clear wD hb4 hb5 hb6 x0 x1 x2
          rw [made_zeros] at hownB
          rw [← hvA, ZA.out] at hownB
          have OB : OwnsE vB v0.heap.size (.slice (some ⟨v0.heap.size + 1, 0, none⟩) D D) (List.replicate D 0) := zeros_ownsE (by omega) hownB
          obtain ⟨vC, hvC⟩ : ∃ vC, vC = vB.alloc (.cells #[.int .i64 1, .slice (some ⟨v0.heap.size, 0, none⟩) 2 2, .slice (some ⟨v0.heap.size + 1, 0, none⟩) D D] 25) := ⟨_, rfl⟩
          have bC := heap_alloc_new vB (.cells #[.int .i64 1, .slice (some ⟨v0.heap.size, 0, none⟩) 2 2, .slice (some ⟨v0.heap.size + 1, 0, none⟩) D D] 25)
          rw [← hvC] at bC
          have gC : vB.grownBy vC none := by rw [hvC]; exact grown_new _ _
          have OC := hide (OB.more gC (.inr (by simp [Value.ownBlock])))
          have GAC := hide (grown_trans hgB gC)
          have G0C := hide (grown_trans gA (grown_trans hgB gC))
          have bA2 := hide (box_kept bA (grown_trans hgB gC))
          obtain ⟨K, hK⟩ : ∃ K, K = vB.heap.size := ⟨_, rfl⟩
          rw [← hK] at bC
          have APC := own_apart OC.out.1 bC (by decide)
          have KNE : Hid (K ≠ v0.heap.size + 1) := fun e => by
            rcases APC with h | h
            · cases h
            · exact h (by rw [e]; rfl)
          have BC : Hid (∀ wx, vC.grownBy wx (some (v0.heap.size + 1)) → wx.heap[K]? = some (.cells #[.int .i64 1, .slice (some ⟨v0.heap.size, 0, none⟩) 2 2, .slice (some ⟨v0.heap.size + 1, 0, none⟩) D D] 25 (0, 0))) := fun wx hx => by
            rw [← bC]
            exact hx.block K (Array.getElem?_eq_some_iff.1 bC).1 (by simpa using KNE.out)
          have KU : Hid (∀ wx, vC.grownBy wx (some (v0.heap.size + 1)) → v0.grownBy wx none) := fun wx hx => grown_trans_row G0C.out hx (fun g e => by cases e; omega)
          have KA : Hid (∀ wx, vC.grownBy wx (some (v0.heap.size + 1)) → vA.grownBy wx none) := fun wx hx => grown_trans_row GAC.out hx (fun g e => by cases e; rw [ZA.out]; exact Nat.le_refl _)
          rw [← hK, ← hvC]
          clear hownB OB gC hgB gA bA bC APC hK hvC
          go_loopw [7] (fun i wr => vC.grownBy wr (some (v0.heap.size + 1)) ∧ ∃ t : Nat, t ≤ d ∧ i = .int .i64 t ∧ OwnsE wr v0.heap.size (.slice (some ⟨v0.heap.size + 1, 0, none⟩) D D) (oneL d t)) (fun i _ => d - (intOf i).toNat)
          case atStart => exact ⟨World.grownBy.refl _ _, 0, Nat.zero_le _, rfl, by rw [oneL, ← HDD2.out]; exact OC.out⟩
          case round =>
            obtain ⟨hgr, t, htl, rfl, ho⟩ := hrel
            have HGq := hide hgr
            have HOq := hide ho
            obtain ⟨y0, y1, y2⟩ := ten_cells (BC.out wr hgr)
            clear hgr ho
            by_cases hlt : t < d
            · obtain ⟨R, hR⟩ : ∃ R, R = t * d := ⟨_, rfl⟩
              obtain ⟨P, hP⟩ : ∃ P, P = R + t := ⟨_, rfl⟩
              have hPD : P < D := by
                have h := place_lt hlt hlt
                rw [← HDD2.out] at h
                omega
              obtain ⟨q1, q2, q3, q4⟩ := HOq.out.put (by rw [oneL_len, HDD2.out]) hPD 1065353216 (by omega)
              have N3 : Hid (OwnsE (wr.setCell ⟨v0.heap.size + 1, P, none⟩ (.int .i64 1065353216)) v0.heap.size (.slice (some ⟨v0.heap.size + 1, 0, none⟩) D D) (oneL d (t + 1))) := by
                show OwnsE _ _ _ _
                rw [oneL, ← hR, ← hP]
                exact q3
              have N4 := hide (grown_same HGq.out q4)
              obtain ⟨ov, hov⟩ : ∃ q, q = (oneL d t).getD P 0 := ⟨_, rfl⟩
              rw [← hov] at q1
              have l1 : (t : Int) < (d : Int) := by omega
              have l2 : (P : Int) < (D : Int) := by omega
              have R5 : R ≤ 1000000 := by omega
              have P5 : P ≤ 1000000 := by omega
              have w3' : wrap64 ((t : Int) * (d : Int)) = (R : Int) := by
                rw [← Int.natCast_mul, ← hR]
                exact wrap64_id (Int.natCast_nonneg _) (Int.ofNat_le.2 R5)
              have w4' : wrap64 ((R : Int) + (t : Int)) = (P : Int) := by
                rw [← Int.natCast_add, ← hP]
                exact wrap64_id (Int.natCast_nonneg _) (Int.ofNat_le.2 P5)
              clear q3 q4 hov hR hP R5 P5
              go_wp2_with fail
              clear w3' w4'
              go_roundw
              case rel => exact ⟨N4.out, t + 1, hlt, by go_num, N3.out⟩
              case measure => simp [intOf]; omega
            · obtain rfl : t = d := by omega
              have GV := hide (KU.out wr HGq.out)
              have G0w := hide (grown_trans G0r.out GV.out)
              have GWw := hide (grown_trans GWr.out GV.out)
              have DM : Hid (IsInts wr (.slice (some ⟨v0.heap.size, 0, none⟩) 2 2) [(t : Int), (t : Int)]) := blk_ints (zs := [(t : Int), (t : Int)]) (by
                have h := HGq.out.block v0.heap.size (Array.getElem?_eq_some_iff.1 bA2.out).1 (by simp)
                rw [h]
                exact bA2.out) (by simp) (by intro z hz; simp at hz; omega)
              have DT := hide HOq.out.ints
              obtain ⟨uB, huB⟩ : ∃ uB, uB = (wr.alloc (.cells #[.string ⟨#[120]⟩, .string ⟨#[121]⟩] 9)).alloc (.cells #[.int .i64 tx, .slice (some ⟨xb, xo, none⟩) x.length xc, .slice ua xs.length uc, .int .i64 1, .slice (some ⟨v0.heap.size, 0, none⟩) 2 2, .slice (some ⟨v0.heap.size + 1, 0, none⟩) D D] 25) := ⟨_, rfl⟩
              have hbB := two_boxes wr (.cells #[.string ⟨#[120]⟩, .string ⟨#[121]⟩] 9) (.cells #[.int .i64 tx, .slice (some ⟨xb, xo, none⟩) x.length xc, .slice ua xs.length uc, .int .i64 1, .slice (some ⟨v0.heap.size, 0, none⟩) 2 2, .slice (some ⟨v0.heap.size + 1, 0, none⟩) D D] 25)
              rw [← huB] at hbB
              have gB : wr.grownBy uB none := by rw [huB]; exact grown_trans (grown_new _ _) (grown_new _ _)
              have GUB := hide (grown_trans GWw.out gB)
              have GUV := hide (grown_trans GV.out gB)
              have tw : Twin x [(t : Int), (t : Int)] := by
                have h := X2.out
                match x, h with
                | [p0, q0], _ => exact ⟨[], p0, q0, t, t, by simp, rfl, rfl⟩
              have E1 := hide (matmul_do ⟨#[122]⟩ ⟨some ⟨wr.heap.size, 0, none⟩, 2, 2⟩ ⟨#[120]⟩ ⟨#[121]⟩ (by kernel_rfl) (by decide) ⟨some ⟨wr.heap.size + 1, 0, none⟩, 2, 2⟩ ⟨tx, ⟨some ⟨xb, xo, none⟩, x.length, xc⟩, ⟨ua, xs.length, uc⟩⟩ ⟨1, ⟨some ⟨v0.heap.size, 0, none⟩, 2, 2⟩, ⟨some ⟨v0.heap.size + 1, 0, none⟩, D, D⟩⟩ x [(t : Int), (t : Int)] xs (oneL t t) uB tw (HL.out.more GUB.out) (xy_strs hbB.1) (two_tens _ _ hbB.2 (HX.out.more GUB.out) (HXS.out.more GUB.out) (DM.out.more gB) (DT.out.more gB)))
              unfold nval nilS at E1
              simp only at E1
              obtain ⟨r, hr⟩ : ∃ r, r = mmR tx 1 x [(t : Int), (t : Int)] xs (oneL t t) := ⟨_, rfl⟩
              have HR := hide hr
              rw [← hr] at E1
              obtain ⟨a0, a1, a2⟩ := ten_cells (BX.out _ (grown_trans G0w.out (grown_new wr (.cells #[.string ⟨#[120]⟩, .string ⟨#[121]⟩] 9))))
              obtain ⟨c0, c1, c2⟩ := ten_cells (box_kept (BC.out wr HGq.out) (grown_new wr (.cells #[.string ⟨#[120]⟩, .string ⟨#[121]⟩] 9)))
              have BQ := hide (box_kept (B3.out v0 HGr.out) GUV.out)
              clear hr hbB gB tw y0 y1 y2
              go_wp2_with fail
              rw [← huB]
              clear huB a0 a1 a2 c0 c1 c2
              refine E1.out.mono ?_
              intro e u2 hq
              obtain ⟨hg2, ⟨aa, an, ac⟩, ⟨ad, am, ak⟩, rfl, ia, ja⟩ := do_any hq
              simp only
              obtain ⟨u3, hu3⟩ : ∃ u3, u3 = u2.alloc (.cells #[.int .i64 (rTy r), .slice aa an ac, .slice ad am ak] 25) := ⟨_, rfl⟩
              have bu3 := heap_alloc_new u2 (.cells #[.int .i64 (rTy r), .slice aa an ac, .slice ad am ak] 25)
              rw [← hu3] at bu3
              have gu3 : u2.grownBy u3 none := by rw [hu3]; exact grown_new _ _
              have GU3 := hide (grown_trans GUB.out (grown_trans hg2 gu3))
              have L3 := hide (LV.out u3 GU3.out)
              have IA := hide (ia.more gu3)
              have JA := hide (ja.more gu3)
              have DV3 := hide (HDV.out.more (grown_trans GUV.out (grown_trans hg2 gu3)))
              have OV3 := hide (OW.out.ints.more (grown_trans GUV.out (grown_trans hg2 gu3)))
              have BQ3 := hide (box_kept BQ.out (grown_trans hg2 gu3))
              have BU3 := hide bu3
              clear hq hg2 E1 ia ja gu3 bu3
              cases r with
              | error c =>
                have hc0 : (rC (Except.error c : R (Int × List Int × List Int)) != 0) = true := by
                  have hn : c ≠ 0 := nz_mm _ _ _ _ _ _ c HR.out.symm
                  simpa [rC] using hn
                rw [hu3] at L3
                go_wp2_with fail
                refine L3.out.mono ?_
                rintro e u4 ⟨rfl, hg4⟩
                have GF := hide GU3.out
                rw [hu3] at GF
                go_wp2
                go_ret
                exact ⟨rfl, grown_below (grown_trans GF.out hg4)⟩
              | ok rr =>
                obtain ⟨ty, l, zs⟩ := rr
                obtain ⟨rfl, etx, rfl, rfl⟩ := one_answer X2.out HDD.out.symm (fun z hz hc => nm_fin (NA.out z hz) hc) HR.out.symm
                subst etx
                have SA := hide (sameten_eq 1 _ _ _ _ l (xs.map normF) u3 IA.out JA.out DV3.out OV3.out)
                simp only [Sl.v] at SA
                obtain ⟨a0, a1, a2⟩ := ten_cells BU3.out
                obtain ⟨c0, c1, c2⟩ := ten_cells BQ3.out
                have hc0 : (rC (Except.ok (1, l, xs.map normF) : R (Int × List Int × List Int)) != 0) = false := rfl
                have GF := hide GU3.out
                rw [hu3] at a0 a1 a2 c0 c1 c2
                simp only [rTy] at a0 a1 a2 c0 c1 c2 hu3 ⊢
                go_wp2_with (first | (go_at_call 12; rw [← hu3]; refine SA.out.mono ?_; rintro e w7 ⟨rfl, hg7⟩; have L7 := hide (LV.out w7 (grown_trans GF.out hg7))) | fail)
                refine L7.out.mono ?_
                rintro e w8 ⟨rfl, hg8⟩
                go_wp2
                go_ret
                exact ⟨rfl, grown_below (grown_trans (grown_trans GF.out hg7) hg8)⟩
    · have hcase : dd < 1 ∨ ¬ dd < 1 ∧ 24 < dd := by omega
      clear hd
      rcases hcase with e1 | ⟨e1, e2⟩
      all_goals
        go_wp2_with fail
        refine L1.out.mono ?_
        rintro e w2 ⟨rfl, hg2⟩
        go_wp2
        go_ret
        exact ⟨rfl, grown_below (grown_trans G1.out hg2)⟩
  · have hcase : bb = false ∨ (bb = true ∧ ((x.length : Int) != 2) = true) := by
      cases bb with
      | false => exact .inl rfl
      | true => exact .inr ⟨rfl, by simpa using (fun h => hgo ⟨rfl, by omega⟩ : ¬ (x.length : Int) = 2)⟩
    clear hgo
    rcases hcase with rfl | ⟨rfl, b1⟩
    all_goals
      go_wp2_with fail
      refine L1.out.mono ?_
      rintro e w2 ⟨rfl, hg2⟩
      go_wp2
      go_ret
      exact ⟨rfl, grown_below (grown_trans G1.out hg2)⟩
end Go.Proofs.YtghokdcolmaamaaGreatDoor
