/- The document's element at coordinates that a tensor is spread to, by the walk. -/
import Derived.Test.YteigfipgmghgmaaGreatDoorEpPl
import Derived.Test.YteigfipgmghgmaaGreatDoorETen
import Derived.Test.YteigfipgmghgmaaGreatDoorSCopy
namespace Go.Proofs.YteigfipgmghgmaaGreatDoor
open Go.RowKit

set_option maxRecDepth 100000 in
set_option maxHeartbeats 8000000 in
theorem refat_any (t : Ten) (ds ts cs : List Int) (c : Sl) (w : World) (hd : IsInts w t.dv.v ds) (ht : IsInts w t.tv.v ts) (hc : IsInts w c.v cs) (hF : cntE ds = 0) (hl : ds.length ≤ cs.length) (hi : inside ds (Vw.msk ds (cs.drop (cs.length - ds.length))) = true) (hn : (offs ds (Vw.msk ds (cs.drop (cs.length - ds.length)))).toNat < ts.length) (hcl : cs.length ≤ 1000) :
    Calls Tryz.prog 12 #[tval t, .slice c.a c.n c.c] w fun e w' => e = .returned (.int .i64 (ts.getD (offs ds (Vw.msk ds (cs.drop (cs.length - ds.length)))).toNat 0)) ∧ w.grownBy w' none := by
  obtain ⟨i0, hi0, hz0, hz1, hz2⟩ := info_parts infoInt
  obtain ⟨ty, ⟨da, dn, dc⟩, ⟨ta, tn, tc⟩⟩ := t
  obtain ⟨ca, cn, cc⟩ := c
  obtain ⟨_, _, e1, -⟩ := hd.sl
  obtain ⟨_, _, e2, -⟩ := ht.sl
  obtain ⟨_, _, e3, -⟩ := hc.sl
  simp only [Sl.v, Value.slice.injEq] at e1 e2 e3
  obtain ⟨-, rfl, rfl⟩ := e1
  obtain ⟨-, rfl, rfl⟩ := e2
  obtain ⟨-, rfl, rfl⟩ := e3
  simp only [Sl.v] at hd ht hc
  unfold tval
  simp only
  obtain ⟨CS, hCS⟩ : ∃ z, z = cs.drop (cs.length - ds.length) := ⟨_, rfl⟩
  have lCS : CS.length = ds.length := by rw [hCS, List.length_drop]; omega
  have aCS : Hid (∀ k, k < ds.length → CS.getD k 0 = cs.getD (cs.length - ds.length + k) 0) := fun k hk => by rw [hCS]; simp only [List.getD, List.getElem?_drop]
  rw [← hCS] at hi hn ⊢
  obtain ⟨M, hM⟩ : ∃ z, z = Vw.msk ds CS := ⟨_, rfl⟩
  have lM : M.length = ds.length := by rw [hM, msk_lenE, lCS]
  have aM : Hid (∀ k, k < ds.length → M.getD k 0 = if ds.getD k 0 = 1 then 0 else CS.getD k 0) := fun k hk => by rw [hM]; exact msk_atE ds CS k lCS hk
  rw [← hM] at hi hn ⊢
  have HD := hide hd
  have HT := hide ht
  have HC := hide hc
  have HI := hide hi
  obtain ⟨AH, hAH⟩ : ∃ z, z = cs.length - ds.length := ⟨_, rfl⟩
  have aC2 : Hid (∀ k, k < ds.length → CS.getD k 0 = cs.getD (AH + k) 0) := by rw [hAH]; exact aCS.out
  obtain ⟨NC, hNC⟩ : ∃ z, z = cs.length := ⟨_, rfl⟩
  have LA : Hid (NC = AH + ds.length) := by show _ = _; omega
  rw [← hNC] at HC ⊢
  have LC := hide hNC
  have LM := hide lM
  have LCS := hide lCS
  rw [← hNC] at hcl
  obtain ⟨w0, hw0⟩ : ∃ w0, w0 = w.alloc (.cells #[.int .i64 ty, .slice da ds.length dc, .slice ta ts.length tc] 32) := ⟨_, rfl⟩
  have g0 : Hid (w.grownBy w0 none) := by show w.grownBy w0 none; rw [hw0]; exact grown_new _ _
  have B0 := heap_alloc_new w (.cells #[.int .i64 ty, .slice da ds.length dc, .slice ta ts.length tc] 32)
  obtain ⟨x0, x1, x2⟩ := ten_cells B0
  rw [← hw0] at B0
  have BX : Hid (∀ wx, w0.grownBy wx none → wx.heap[w.heap.size]? = some (.cells #[.int .i64 ty, .slice da ds.length dc, .slice ta ts.length tc] 32 (0, 0))) := fun wx hg => box_kept B0 hg
  clear B0 hd ht hc hi hCS hM aCS hl lM lCS hAH hNC
  have wA : Hid ((NC : Int) - (ds.length : Int) = (AH : Int)) := by
    show _ = _
    have := LA.out
    omega
  have hfew := (fine_of hF).few
  have RM : Hid (∀ z ∈ M, -9223372036854775808 ≤ z ∧ z ≤ 9223372036854775807) := fun z hz => by
    obtain ⟨h1, y, hy, h2⟩ := inside_memE HI.out z hz
    have h3 := le_prodE (fine_of hF).pos y hy
    have h4 := (fine_of hF).le
    omega
  obtain ⟨K, hK⟩ : ∃ K : Nat, offs ds M = K := ⟨(offs ds M).toNat, by have := (offs_lt HI.out).1; omega⟩
  have KK := hide hK
  rw [hK, Int.toNat_natCast] at hn ⊢
  obtain ⟨Z, hZ⟩ : ∃ z, z = ts.getD K 0 := ⟨_, rfl⟩
  rw [← hZ]
  have ZZ := hide hZ
  clear hK hZ
  go_enter Tryz.func12, Tryz.ntmps12
  go_wp2_with fail
  rw [wA.out]
  rw [← hw0]
  clear hw0 x0 x1 x2
  go_loopw [5, 7] (fun v i wr => w0.grownBy wr none ∧ ∃ k : Nat, k ≤ ds.length ∧ i = .int .i64 k ∧ wr.ownsRow w0.heap.size 3 1 v k ((M.take k).map (Value.int .i64))) (fun _ i _ => ds.length - (intOf i).toNat)
  case atStart => exact ⟨grown_refl _, 0, Nat.zero_le _, rfl, by simpa using World.ownsRow_nil _ _ _ _⟩
  case round =>
    obtain ⟨hg, k, hk, rfl, hown⟩ := hrel
    have HG := hide hg
    have HO := hide hown
    have hsz := hg.size
    obtain ⟨x0, x1, x2⟩ := ten_cells (BX.out wr hg)
    clear hown
    by_cases hlt : k < ds.length
    · obtain ⟨db, df, rfl, hcd⟩ := HD.out.get (k := k) hlt
      have dk := cell_still (hcd k hlt) (grown_trans g0.out hg)
      have TS : Hid (M.take (k + 1) = M.take k ++ [M.getD k 0]) := by
        show _ = _
        have lm := LM.out
        rw [List.take_add_one, List.getElem?_eq_getElem (by omega), List.getD, List.getElem?_eq_getElem (by omega)]
        rfl
      have mk := hide (aM.out k hlt)
      have hlt' : (k : Int) < (ds.length : Int) := by omega
      obtain ⟨d, hdd⟩ : ∃ d, d = ds.getD k 0 := ⟨_, rfl⟩
      rw [← hdd] at dk mk
      clear hcd hdd hg
      by_cases h1 : d = 1
      · have E0 : Hid (M.getD k 0 = 0) := by show _ = _; rw [mk.out, if_pos h1]
        subst h1
        go_wp2_with (at_builtin; refine wpList_append_own _ rfl (.tmp 29) (.tmp 30) 29 rfl w0.heap.size 3 i0 (.int .i64 0) 1 8 Tryz.underlying29 hi0 hz0 hz1 hz2 rfl (by decide) _ _ _ rfl (HO.out.alloc _) ⟨wr.heap.size, 0, none⟩ 1 1 [.int .i64 0] rfl rfl (cell_one_new _ _ _) (by simp [Value.oneCell']) (by simp only [maxLen]; omega) (by omega) (by simp; omega) ?_; intro v' w1 hown' hgrow _)
        have HO' := hide hown'
        have HG' := hide (grown_trans_row (grown_trans HG.out (grown_new _ _)) hgrow (fun g hg => (HO.out.lt g hg).1))
        clear hown' hgrow
        go_wp2
        go_roundw
        case rel => exact ⟨HG'.out, k + 1, by omega, by go_num, by rw [TS.out, List.map_append, E0.out]; simpa using HO'.out⟩
        case measure => simp [intOf]; omega
      · have h1' : (d == 1) = false := by simpa using h1
        have E0 : Hid (M.getD k 0 = cs.getD (AH + k) 0) := by show _ = _; rw [mk.out, if_neg h1, aC2.out k hlt]
        have kc : AH + k < cs.length := by have := LA.out; have := LC.out; omega
        obtain ⟨cb, cf, rfl, hcc⟩ := HC.out.get (k := AH + k) kc
        have ck := cell_still (hcc (AH + k) kc) (grown_trans g0.out HG.out)
        rw [← E0.out] at ck
        obtain ⟨mv, hmv⟩ : ∃ d, d = M.getD k 0 := ⟨_, rfl⟩
        rw [← hmv] at ck
        have HMV := hide hmv
        have kn : ((AH + k : Nat) : Int) < (NC : Int) := by have := LA.out; omega
        have ah5 : AH ≤ 1000 := by have := LA.out; omega
        clear h1 hcc hmv E0
        go_wp2_with (at_builtin; refine wpList_append_own _ rfl (.tmp 32) (.tmp 39) 29 rfl w0.heap.size 3 i0 (.int .i64 0) 1 8 Tryz.underlying29 hi0 hz0 hz1 hz2 rfl (by decide) _ _ _ rfl (HO.out.alloc _) ⟨wr.heap.size, 0, none⟩ 1 1 [.int .i64 mv] rfl rfl (cell_one_new _ _ _) (by simp [Value.oneCell']) (by simp only [maxLen]; omega) (by omega) (by simp; omega) ?_; intro v' w1 hown' hgrow _)
        have HO' := hide hown'
        have HG' := hide (grown_trans_row (grown_trans HG.out (grown_new _ _)) hgrow (fun g hg => (HO.out.lt g hg).1))
        clear hown' hgrow
        go_wp2
        go_roundw
        case rel => exact ⟨HG'.out, k + 1, by omega, by go_num, by rw [TS.out, List.map_append, ← HMV.out]; simpa using HO'.out⟩
        case measure => simp [intOf]; omega
    · obtain rfl : k = ds.length := by omega
      have h := HO.out
      rw [List.take_of_length_le (by have := LM.out; omega)] at h
      have OW := hide (show Owns wr w0.heap.size _ M from ⟨by rw [LM.out]; exact h, by have := LM.out; omega, RM.out⟩)
      clear h
      have OF := hide (refoffset_any _ _ ds M wr (HD.out.more (grown_trans g0.out hg)) OW.out.ints)
      rw [(off_inE (fine_of hF) HI.out).1, (off_inE (fine_of hF) HI.out).2, KK.out] at OF
      obtain ⟨tb, tf, rfl, hct⟩ := HT.out.get (k := K) hn
      have CT : Hid (∀ wx, wr.grownBy wx none → wx.cell? ⟨tb, tf + K, none⟩ = some (.int .i64 Z)) := fun wx hx => by rw [ZZ.out]; exact cell_still (hct K hn) (grown_trans (grown_trans g0.out hg) hx)
      have hn' : (K : Int) < (ts.length : Int) := by omega
      clear hct hg
      go_wp2_with fail
      refine OF.out.mono ?_
      rintro e w2 ⟨rfl, hg2⟩
      have GF := hide (grown_trans g0.out (grown_trans HG.out hg2))
      obtain ⟨x0, x1, x2⟩ := ten_cells (BX.out w2 (grown_trans HG.out hg2))
      have ct := CT.out w2 hg2
      clear hg2
      go_wp2
      go_ret
      exact ⟨rfl, GF.out⟩
end Go.Proofs.YteigfipgmghgmaaGreatDoor
