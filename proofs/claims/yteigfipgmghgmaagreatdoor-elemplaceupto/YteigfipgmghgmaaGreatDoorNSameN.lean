/- The same tensors, attributes and nodes: the document's answer, by the walk. -/
import Derived.Test.YteigfipgmghgmaaGreatDoorNNode
namespace Go.Proofs.YteigfipgmghgmaaGreatDoor
open Go.RowKit

theorem ints_addr' {w : World} {a : Option Addr} {l c : Nat} {zs : List Int} (h : IsInts w (.slice a l c) zs) {k : Nat} (hk : k < zs.length) : ∃ b off, a = some ⟨b, off, none⟩ ∧ w.cell? ⟨b, off + k, none⟩ = some (.int .i64 (zs.getD k 0)) := by
  obtain ⟨ao, cap, e, h1, h2, h3, h4, h5, h6⟩ := h
  cases e
  obtain ⟨b, off, rfl, hc⟩ := h5 (by omega)
  exact ⟨b, off, rfl, hc k hk⟩

set_option maxRecDepth 100000 in
set_option maxHeartbeats 1600000 in
theorem sameints_eq (u v : Value) (xs : List Int) (w : World) (hu : IsInts w u xs) (hv : IsInts w v xs) :
    Calls Tryz.prog 15 #[u, v] w fun e w' => e = .returned (.bool true) ∧ w.grownBy w' none := by
  have HU := hide hu
  have HV := hide hv
  obtain ⟨ua, uc, rfl, h1, h2, h3, -⟩ := hu
  obtain ⟨va, vc, rfl, k1, k2, k3, -⟩ := hv
  go_enter Tryz.func15, Tryz.ntmps15
  go_wp2
  go_loopw [5] (fun i wr => w.grownBy wr none ∧ ∃ k : Nat, k ≤ xs.length ∧ i = .int .i64 k) (fun i _ => xs.length - (intOf i).toNat)
  case atStart => exact ⟨grown_refl _, 0, Nat.zero_le _, rfl⟩
  case round =>
    obtain ⟨hg, k, hk, rfl⟩ := hrel
    by_cases hlt : k < xs.length
    · obtain ⟨ub, uo, rfl, a0⟩ := ints_addr' (HU.out.more hg) hlt
      obtain ⟨vb, vo, rfl, b0⟩ := ints_addr' (HV.out.more hg) hlt
      obtain ⟨X, hX⟩ : ∃ X, X = xs.getD k 0 := ⟨_, rfl⟩
      rw [← hX] at a0 b0
      clear hX
      go_wp2
      go_region
      all_goals
        go_wp2
        go_roundw
        case rel => exact ⟨grown_drew hg, k + 1, by omega, by go_num⟩
        case measure => simp [intOf]; omega
    · go_wp2
      go_ret
      exact ⟨rfl, hg⟩

set_option maxRecDepth 100000 in
set_option maxHeartbeats 1600000 in
theorem sameten_eq (ty : Int) (d t d' t' : Value) (ds ts : List Int) (w : World) (hd : IsInts w d ds) (ht : IsInts w t ts) (hd' : IsInts w d' ds) (ht' : IsInts w t' ts) :
    Calls Tryz.prog 9 #[.agg #[.int .i64 ty, d, t], .agg #[.int .i64 ty, d', t']] w fun e w' => e = .returned (.bool true) ∧ w.grownBy w' none := by
  have HD := hide hd
  have HD' := hide hd'
  have HT := hide ht
  have HT' := hide ht'
  obtain ⟨da, dc, rfl, -⟩ := hd
  obtain ⟨ea, ec, rfl, -⟩ := hd'
  obtain ⟨ua, uc, rfl, h1, h2, h3, -⟩ := ht
  obtain ⟨va, vc, rfl, k1, k2, k3, -⟩ := ht'
  obtain ⟨w0, hw0⟩ : ∃ w0, w0 = (w.alloc (.cells #[.int .i64 ty, .slice da ds.length dc, .slice ua ts.length uc] 32)).alloc (.cells #[.int .i64 ty, .slice ea ds.length ec, .slice va ts.length vc] 32) := ⟨_, rfl⟩
  have g0 : w.grownBy w0 none := by rw [hw0]; exact grown_trans (grown_new _ _) (grown_new _ _)
  have hbx := two_boxes w (.cells #[.int .i64 ty, .slice da ds.length dc, .slice ua ts.length uc] 32) (.cells #[.int .i64 ty, .slice ea ds.length ec, .slice va ts.length vc] 32)
  have hbx0 := hbx
  rw [← hw0] at hbx
  have B1 : Hid (∀ wx, w0.grownBy wx none → wx.heap[w.heap.size]? = some (.cells #[.int .i64 ty, .slice da ds.length dc, .slice ua ts.length uc] 32 (0, 0))) := fun wx hg => box_kept hbx.1 hg
  have B2 : Hid (∀ wx, w0.grownBy wx none → wx.heap[w.heap.size + 1]? = some (.cells #[.int .i64 ty, .slice ea ds.length ec, .slice va ts.length vc] 32 (0, 0))) := fun wx hg => box_kept hbx.2 hg
  obtain ⟨a0, a1, a2⟩ := ten_cells hbx0.1
  obtain ⟨b0, b1, b2⟩ := ten_cells hbx0.2
  clear hbx hbx0
  go_enter Tryz.func9, Tryz.ntmps9
  go_wp2_with fail
  rw [← hw0]
  clear hw0 a0 a1 a2 b0 b1 b2
  refine (sameints_eq _ _ ds w0 (HD.out.more g0) (HD'.out.more g0)).mono ?_
  rintro e w1 ⟨rfl, hg1⟩
  obtain ⟨a0, a1, a2⟩ := ten_cells (B1.out w1 hg1)
  obtain ⟨b0, b1, b2⟩ := ten_cells (B2.out w1 hg1)
  go_wp2_with fail
  clear a0 a1 a2 b0 b1 b2
  go_loopw [5] (fun i wr => w0.grownBy wr none ∧ ∃ k : Nat, k ≤ ts.length ∧ i = .int .i64 k) (fun i _ => ts.length - (intOf i).toNat)
  case atStart => exact ⟨hg1, 0, Nat.zero_le _, rfl⟩
  case round =>
    obtain ⟨hg, k, hk, rfl⟩ := hrel
    obtain ⟨a0, a1, a2⟩ := ten_cells (B1.out wr hg)
    obtain ⟨b0, b1, b2⟩ := ten_cells (B2.out wr hg)
    by_cases hlt : k < ts.length
    · obtain ⟨ub, uo, rfl, x0⟩ := ints_addr' (HT.out.more (grown_trans g0 hg)) hlt
      obtain ⟨vb, vo, rfl, y0⟩ := ints_addr' (HT'.out.more (grown_trans g0 hg)) hlt
      obtain ⟨X, hX⟩ : ∃ X, X = ts.getD k 0 := ⟨_, rfl⟩
      rw [← hX] at x0 y0
      clear hX
      go_wp2
      go_region
      all_goals
        go_wp2
        go_roundw
        case rel => exact ⟨grown_drew hg, k + 1, by omega, by go_num⟩
        case measure => simp [intOf]; omega
    · go_wp2
      go_ret
      exact ⟨rfl, grown_trans g0 hg⟩

end Go.Proofs.YteigfipgmghgmaaGreatDoor
