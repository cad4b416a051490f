/- The document's test whether a view is plain, by the walk. -/
import Derived.Test.YtankpkbneojgdaaVShape
import Derived.Test.YtankpkbneojgdaaVRSpread
import Derived.Test.YtankpkbneojgdaaSRStr
import Derived.Deep.LoopGhost
namespace Go.Proofs.Ytankpkbneojgdaa
open Go.RowKit

set_option maxRecDepth 100000 in
set_option maxHeartbeats 3200000 in
theorem refplain_any (v : Value) (off : Int) (ds ss : List Int) (w : World) (h : IsView w v off ds ss) (hm : MayV off ds ss) :
    Calls Try.prog 25 #[v] w (Tells (PlainV ds ss) w) := by
  obtain ⟨dv, sv, rfl, hd, hs, ho1, ho2⟩ := h
  have HD := hide hd
  have HS := hide hs
  obtain ⟨da, dc, rfl, hd1, hd2, hd3, -, -, -⟩ := hd
  obtain ⟨sa, sc, rfl, hs1, hs2, hs3, -, -, -⟩ := hs
  have g0 := grown_new w (.cells #[.int .i64 off, .slice da ds.length dc, .slice sa ss.length sc] 24)
  have b0 := hide (heap_alloc_new w (.cells #[.int .i64 off, .slice da ds.length dc, .slice sa ss.length sc] 24))
  have c1 := refstrides_any _ ds _ (HD.out.more g0)
  rw [hm.fine.ok, show strdE ds = strd ds by simp [strdE, hm.fine.ok]] at c1
  have C1 := hide c1
  have hll : ds.length ≤ ss.length := by have := hm.len; omega
  obtain ⟨T, hT⟩ : ∃ T, T = strd ds := ⟨_, rfl⟩
  have hTl : T.length = ds.length := by rw [hT, strd_length]
  rw [← hT] at C1
  have HT := hide hT
  have hT1 : T.length ≤ ds.length := by omega
  have hT2 : ds.length ≤ T.length := by omega
  clear c1 hm hT hTl
  go_enter Try.func25, Try.ntmps25
  go_wp2_with fail
  refine C1.out.mono ?_
  rintro e w1 ⟨tv, rfl, ot, hg1⟩
  have OT := hide ot.ints
  obtain ⟨ta, tc, rfl, ht1, ht2, ht3, -, -, -⟩ := ot.ints
  have BX : Hid (∀ wx, w1.grownBy wx none → wx.heap[w.heap.size]? = some (.cells #[.int .i64 off, .slice da ds.length dc, .slice sa ss.length sc] 24 (0, 0))) := fun wx hx => box_kept (box_kept b0.out hg1) hx
  have g01 := grown_trans g0 hg1
  clear ot
  go_wp2
  go_loopg [5] T.length (fun f i wr => ∃ k : Nat, f = T.length - k ∧ k ≤ T.length ∧ i = .int .i64 k ∧ w1.grownBy wr none ∧ ∀ t, t < k → ds.getD t 0 ≠ 1 → ss.getD t 0 = T.getD t 0)
  case atStart => exact ⟨0, rfl, Nat.zero_le _, rfl, grown_refl _, fun t h => absurd h (by omega)⟩
  case round =>
    obtain ⟨k, rfl, hk, rfl, hw, hall⟩ := hrel
    have HA := hide hall
    clear hall
    by_cases hkl : k < T.length
    · obtain ⟨y0, y1, y2, -, -, -⟩ := box_cells (BX.out wr hw)
      obtain ⟨bt, ot', hto, hct⟩ := item_at' (OT.out.more hw) hkl
      obtain ⟨bd, od, hdo, hcd⟩ := item_at' (HD.out.more (grown_trans g01 hw)) (show k < ds.length by omega)
      obtain ⟨bs, os, hso, hcs⟩ := item_at' (HS.out.more (grown_trans g01 hw)) (show k < ss.length by omega)
      subst hto hdo hso
      obtain ⟨D, hD⟩ : ∃ D, D = ds.getD k 0 := ⟨_, rfl⟩
      obtain ⟨S, hS⟩ : ∃ S, S = ss.getD k 0 := ⟨_, rfl⟩
      obtain ⟨X, hX⟩ : ∃ X, X = T.getD k 0 := ⟨_, rfl⟩
      rw [← hD] at hcd
      rw [← hS] at hcs
      rw [← hX] at hct
      have HDD := hide hD
      have HSS := hide hS
      have HXX := hide hX
      clear hD hS hX
      by_cases hD1 : D = 1
      · have hd1' : (D != 1) = false := by simp [hD1]
        have HD1 := hide hD1
        clear hD1
        go_wp2
        go_region
        all_goals go_wp2
        go_roundg (T.length - (k + 1))
        case measure => omega
        case rel =>
          refine ⟨k + 1, rfl, by omega, by go_num, grown_drew hw, fun t ht h1 => ?_⟩
          rcases lt_succ_cases ht with h | rfl
          · exact HA.out t h h1
          · exact absurd (HDD.out.symm.trans HD1.out) h1
      · have hd1' : (D != 1) = true := by simp [hD1]
        by_cases hSX : S = X
        · have hsx : (S != X) = false := by simp [hSX]
          have HSX := hide hSX
          clear hD1 hSX
          go_wp2
          go_region
          all_goals go_wp2
          go_roundg (T.length - (k + 1))
          case measure => omega
          case rel =>
            refine ⟨k + 1, rfl, by omega, by go_num, grown_drew hw, fun t ht h1 => ?_⟩
            rcases lt_succ_cases ht with h | rfl
            · exact HA.out t h h1
            · rw [← HSS.out, ← HXX.out]; exact HSX.out
        · have hsx : (S != X) = true := by simp [hSX]
          have HNP : Hid (¬ PlainV ds ss) := fun h => hSX (by
            have := h k (by omega) (by rw [← HDD.out]; exact hD1)
            rw [← HSS.out, ← HT.out, ← HXX.out] at this
            exact this)
          clear hD1 hSX
          go_wp2
          go_region
          all_goals go_wp2
          go_ret
          exact ⟨false, rfl, ⟨fun h => (by cases h), fun h => absurd h HNP.out⟩, grown_drew (grown_trans g01 hw)⟩
    · obtain rfl : k = T.length := by omega
      have HPP : Hid (PlainV ds ss) := fun t ht h1 => by
        rw [← HT.out]
        exact HA.out t (by omega) h1
      go_wp2
      go_ret
      exact ⟨true, rfl, ⟨fun _ => HPP.out, fun _ => rfl⟩, grown_trans g01 hw⟩
end Go.Proofs.Ytankpkbneojgdaa
