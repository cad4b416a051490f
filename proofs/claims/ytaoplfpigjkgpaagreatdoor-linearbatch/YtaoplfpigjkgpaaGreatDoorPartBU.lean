/- Joined texts: LLBatW. -/
import Derived.Test.YtaoplfpigjkgpaaGreatDoorPartBR
import Derived.Deep.RegionHeld3
import Derived.Deep.Cut
import Derived.BigQuiet
import Derived.Test.YtaoplfpigjkgpaaGreatDoorPartBT
namespace Go.Proofs.YtaoplfpigjkgpaaGreatDoor

open Go.RowKit

theorem nz_mmr (t0 t1 : Int) (x y xs ys : List Int) : ∀ c, mmR t0 t1 x y xs ys = .error c → c ≠ 0 := by
  intro c h
  unfold mmR doR at h
  split at h
  · cases h
  · rename_i c' hn
    cases h
    exact nz_node (nz_outM _ _ _ _ _ (nz_product _ _)) _ hn

set_option maxRecDepth 100000 in
set_option maxHeartbeats 16000000 in
theorem linearBatch_other (X : Ten) {x xs : List Int} (Y : Ten) {y ys : List Int} (row : Int) (w : World) (hl : Laid w) (hx : IsInts w X.dv.v x) (hxs : IsInts w X.tv.v xs) (hy : IsInts w Y.dv.v y) (hys : IsInts w Y.tv.v ys) (hn : (((x.length : Int) != 3) = true) ∨ ((((x.length : Int) != 3) = false) ∧ (((y.length : Int) != 3) = true))) : Calls Tryz.prog 8 #[tval X, tval Y, .int .i64 row] w fun e w' => e = .returned (.bool true) ∧ Below w.heap.size w w' := by
  have HN := hide hn
  clear hn
  have HL := hide hl
  have HX := hide hx
  have HXS := hide hxs
  have HY := hide hy
  have HYS := hide hys
  obtain ⟨_, _, ex, -⟩ := hx.sl
  obtain ⟨_, _, ey, -⟩ := hy.sl
  clear hl hx hxs hy hys
  obtain ⟨tx, ⟨xa, xn, xc⟩, ⟨ua, un, uc⟩⟩ := X
  obtain ⟨ty, ⟨ya, yn, yc⟩, ⟨va, vn, vc⟩⟩ := Y
  simp only [Sl.v, Value.slice.injEq] at ex ey
  obtain ⟨-, rfl, -⟩ := ex
  obtain ⟨-, rfl, -⟩ := ey
  simp only [Sl.v] at HX HXS HY HYS
  unfold tval
  simp only
  obtain ⟨w0, hw0⟩ : ∃ w0, w0 = (w.alloc (.cells #[.int .i64 tx, .slice xa x.length xc, .slice ua un uc] 32)).alloc (.cells #[.int .i64 ty, .slice ya y.length yc, .slice va vn vc] 32) := ⟨_, rfl⟩
  have hbx := two_boxes w (.cells #[.int .i64 tx, .slice xa x.length xc, .slice ua un uc] 32) (.cells #[.int .i64 ty, .slice ya y.length yc, .slice va vn vc] 32)
  rw [← hw0] at hbx
  have g0 : w.grownBy w0 none := by rw [hw0]; exact grown_trans (grown_new _ _) (grown_new _ _)
  have BX : Hid (∀ wx, w0.grownBy wx none → wx.heap[w.heap.size]? = some (.cells #[.int .i64 tx, .slice xa x.length xc, .slice ua un uc] 32 (0, 0)) ∧ wx.heap[w.heap.size + 1]? = some (.cells #[.int .i64 ty, .slice ya y.length yc, .slice va vn vc] 32 (0, 0))) := fun wx hx => ⟨box_kept hbx.1 hx, box_kept hbx.2 hx⟩
  have LV : Hid (∀ wx, w.grownBy wx none → Calls Tryz.prog 15 #[] wx fun e w' => e = .returned (.bool true) ∧ wx.grownBy w' none) := fun wx hx => live12_any wx (HL.out.more hx)
  have SM : Hid (∀ wx, w0.grownBy wx none → wx.heap[w0.heap.size]? = some (.cells #[.int .i64 tx, .slice xa x.length xc, .slice ua un uc, .int .i64 ty, .slice ya y.length yc, .slice va vn vc] 32 (0, 0)) → Calls Tryz.prog 14 #[.slice (some ⟨w0.heap.size, 0, none⟩) 2 2] wx fun e w' => ∃ b : Bool, e = .returned (.bool b) ∧ wx.grownBy w' none) := fun wx hx hb => by
    have hgx := grown_trans g0 hx
    exact small12_any ⟨some ⟨w0.heap.size, 0, none⟩, 2, 2⟩ _ wx (two_tens ⟨tx, ⟨_, _, _⟩, ⟨ua, un, uc⟩⟩ ⟨ty, ⟨_, _, _⟩, ⟨va, vn, vc⟩⟩ hb (HX.out.more hgx) (HXS.out.more hgx) (HY.out.more hgx) (HYS.out.more hgx))
  obtain ⟨x0, x1, x2⟩ := ten_cells hbx.1
  obtain ⟨y0, y1, y2⟩ := ten_cells hbx.2
  have G0 := hide g0
  clear hbx g0
  go_enter Tryz.func8, Tryz.ntmps8
  go_wp2_with fail
  rw [← hw0]
  clear hw0
  go_cut [42] from 15 (fun v wx => w0.grownBy wx none ∧ v = .bool true)
  case first =>
    refine wp_region_held_drew (S := fun w' => w0.grownBy w' none) (by kernel_rfl) (by repeat (first | exact grown_refl _ | refine grown_drew ?_)) (fun hHeld => ?_)
    refine wpAnyH_take (i := 0) (v := ?_) rfl (by kernel_rfl) (by kernel_rfl) (by kernel_rfl) (fun _ _ _ h => h) (Or.inl ⟨by kernel_rfl, ?_⟩) (by assumption) ?_
    rotate_left 1
    · (intro wS hSw; have c0 := cell_still x0 hSw; have c1 := cell_still x1 hSw; have c2 := cell_still x2 hSw; go_simp; (try with_reducible rfl))
    try simp only [Act.put]
    refine wpAnyH_take (i := 1) (v := ?_) rfl (by kernel_rfl) (by kernel_rfl) (by kernel_rfl) (fun _ _ _ h => h) (Or.inl ⟨by kernel_rfl, ?_⟩) (by assumption) ?_
    rotate_left 1
    · (intro wS hSw; have c0 := cell_still y0 hSw; have c1 := cell_still y1 hSw; have c2 := cell_still y2 hSw; go_simp; (try with_reducible rfl))
    try simp only [Act.put]
    refine wpAnyH_ready (rs := [2]) (by kernel_rfl) (by simp) ?_
    refine AllReadyH.cons rfl (fun K hK => ?_) AllReadyH.nil
    go_simp
    refine hK.out _ _ (by show w0.grownBy _ none; (first | assumption | (repeat (first | assumption | exact grown_refl _ | refine grown_drew ?_ | refine grown_trans ?_ (grown_new _ _))))) (fun hHeld => ?_)
    clear hK K
    try simp only [Act.put]
    have zT : ((w0.alloc (.cells #[.int .i64 tx, .slice xa x.length xc, .slice ua un uc, .int .i64 ty, .slice ya y.length yc, .slice va vn vc] 32)).drew).heap[w0.heap.size]? = some (.cells #[.int .i64 tx, .slice xa x.length xc, .slice ua un uc, .int .i64 ty, .slice ya y.length yc, .slice va vn vc] 32 (0, 0)) := heap_alloc_new w0 (.cells #[.int .i64 tx, .slice xa x.length xc, .slice ua un uc, .int .i64 ty, .slice ya y.length yc, .slice va vn vc] 32)
    generalize eT : (w0.alloc (.cells #[.int .i64 tx, .slice xa x.length xc, .slice ua un uc, .int .i64 ty, .slice ya y.length yc, .slice va vn vc] 32)).drew = v1 at zT hHeld ⊢
    have g1 : w0.grownBy v1 none := hHeld
    clear eT
    refine wpAnyH_ready (rs := [3]) (by kernel_rfl) (by simp) ?_
    refine AllReadyH.cons rfl (fun K hK => ?_) AllReadyH.nil
    go_simp
    refine (SM.out v1 g1 zT).mono ?_
    rintro e v2 ⟨bb, rfl, hy2⟩
    refine hK.out _ _ (grown_trans g1 hy2) (fun hHeld => ?_)
    clear hK K zT g1 hy2
    try simp only [Act.put]
    cases bb with
    | false =>
      refine wpAnyH_take (i := 4) (v := .bool true) rfl (by kernel_rfl) (by kernel_rfl) (by kernel_rfl) (fun _ _ _ h => h) (Or.inl ⟨by kernel_rfl, ?_⟩) (by assumption) ?_
      · (intro wS hSw; go_simp; (try simp only []))
      try simp only [Act.put]
      refine wpAnyH_take (i := 5) (v := ?_) rfl (by kernel_rfl) (by kernel_rfl) (by kernel_rfl) (fun _ _ _ h => h) (Or.inl ⟨by kernel_rfl, ?_⟩) (by assumption) ?_
      rotate_left 1
      · (intro wS hSw; go_simp; (try with_reducible rfl))
      try simp only [Act.put]
      refine wpAnyH_take (i := 6) (v := undef) rfl (by kernel_rfl) (by kernel_rfl) (by kernel_rfl) (fun _ _ _ h => h) (Or.inr ⟨by kernel_rfl, rfl⟩) (by assumption) ?_
      try simp only [Act.put]
      refine wpAnyH_take (i := 7) (v := undef) rfl (by kernel_rfl) (by kernel_rfl) (by kernel_rfl) (fun _ _ _ h => h) (Or.inr ⟨by kernel_rfl, rfl⟩) (by assumption) ?_
      try simp only [Act.put]
      refine wpAnyH_take (i := 8) (v := undef) rfl (by kernel_rfl) (by kernel_rfl) (by kernel_rfl) (fun _ _ _ h => h) (Or.inr ⟨by kernel_rfl, rfl⟩) (by assumption) ?_
      try simp only [Act.put]
      refine wpAnyH_take (i := 9) (v := undef) rfl (by kernel_rfl) (by kernel_rfl) (by kernel_rfl) (fun _ _ _ h => h) (Or.inr ⟨by kernel_rfl, rfl⟩) (by assumption) ?_
      try simp only [Act.put]
      refine wpAnyH_take (i := 10) (v := .bool true) rfl (by kernel_rfl) (by kernel_rfl) (by kernel_rfl) (fun _ _ _ h => h) (Or.inl ⟨by kernel_rfl, ?_⟩) (by assumption) ?_
      · (intro wS hSw; go_simp; (try simp only []))
      try simp only [Act.put]
      refine wpAnyH_take (i := 11) (v := ?_) rfl (by kernel_rfl) (by kernel_rfl) (by kernel_rfl) (fun _ _ _ h => h) (Or.inl ⟨by kernel_rfl, ?_⟩) (by assumption) ?_
      rotate_left 1
      · (intro wS hSw; go_simp; (try with_reducible rfl))
      try simp only [Act.put]
      refine wpAnyH_take (i := 12) (v := undef) rfl (by kernel_rfl) (by kernel_rfl) (by kernel_rfl) (fun _ _ _ h => h) (Or.inr ⟨by kernel_rfl, rfl⟩) (by assumption) ?_
      try simp only [Act.put]
      refine wpAnyH_take (i := 13) (v := undef) rfl (by kernel_rfl) (by kernel_rfl) (by kernel_rfl) (fun _ _ _ h => h) (Or.inr ⟨by kernel_rfl, rfl⟩) (by assumption) ?_
      try simp only [Act.put]
      refine wpAnyH_take (i := 14) (v := undef) rfl (by kernel_rfl) (by kernel_rfl) (by kernel_rfl) (fun _ _ _ h => h) (Or.inr ⟨by kernel_rfl, rfl⟩) (by assumption) ?_
      try simp only [Act.put]
      refine wpAnyH_take (i := 15) (v := undef) rfl (by kernel_rfl) (by kernel_rfl) (by kernel_rfl) (fun _ _ _ h => h) (Or.inr ⟨by kernel_rfl, rfl⟩) (by assumption) ?_
      try simp only [Act.put]
      refine wpAnyH_take (i := 16) (v := .bool true) rfl (by kernel_rfl) (by kernel_rfl) (by kernel_rfl) (fun _ _ _ h => h) (Or.inl ⟨by kernel_rfl, ?_⟩) (by assumption) ?_
      · (intro wS hSw; go_simp; (try simp only []))
      try simp only [Act.put]
      refine wpAnyH_take (i := 17) (v := ?_) rfl (by kernel_rfl) (by kernel_rfl) (by kernel_rfl) (fun _ _ _ h => h) (Or.inl ⟨by kernel_rfl, ?_⟩) (by assumption) ?_
      rotate_left 1
      · (intro wS hSw; go_simp; (try with_reducible rfl))
      try simp only [Act.put]
      refine wpAnyH_take (i := 18) (v := undef) rfl (by kernel_rfl) (by kernel_rfl) (by kernel_rfl) (fun _ _ _ h => h) (Or.inr ⟨by kernel_rfl, rfl⟩) (by assumption) ?_
      try simp only [Act.put]
      refine wpAnyH_take (i := 19) (v := undef) rfl (by kernel_rfl) (by kernel_rfl) (by kernel_rfl) (fun _ _ _ h => h) (Or.inr ⟨by kernel_rfl, rfl⟩) (by assumption) ?_
      try simp only [Act.put]
      refine wpAnyH_take (i := 20) (v := undef) rfl (by kernel_rfl) (by kernel_rfl) (by kernel_rfl) (fun _ _ _ h => h) (Or.inr ⟨by kernel_rfl, rfl⟩) (by assumption) ?_
      try simp only [Act.put]
      refine wpAnyH_take (i := 21) (v := undef) rfl (by kernel_rfl) (by kernel_rfl) (by kernel_rfl) (fun _ _ _ h => h) (Or.inr ⟨by kernel_rfl, rfl⟩) (by assumption) ?_
      try simp only [Act.put]
      refine wpAnyH_take (i := 22) (v := undef) rfl (by kernel_rfl) (by kernel_rfl) (by kernel_rfl) (fun _ _ _ h => h) (Or.inr ⟨by kernel_rfl, rfl⟩) (by assumption) ?_
      try simp only [Act.put]
      refine wpAnyH_take (i := 23) (v := undef) rfl (by kernel_rfl) (by kernel_rfl) (by kernel_rfl) (fun _ _ _ h => h) (Or.inr ⟨by kernel_rfl, rfl⟩) (by assumption) ?_
      try simp only [Act.put]
      refine wpAnyH_take (i := 24) (v := undef) rfl (by kernel_rfl) (by kernel_rfl) (by kernel_rfl) (fun _ _ _ h => h) (Or.inr ⟨by kernel_rfl, rfl⟩) (by assumption) ?_
      try simp only [Act.put]
      refine wpAnyH_take (i := 25) (v := undef) rfl (by kernel_rfl) (by kernel_rfl) (by kernel_rfl) (fun _ _ _ h => h) (Or.inr ⟨by kernel_rfl, rfl⟩) (by assumption) ?_
      try simp only [Act.put]
      refine wpAnyH_take (i := 26) (v := undef) rfl (by kernel_rfl) (by kernel_rfl) (by kernel_rfl) (fun _ _ _ h => h) (Or.inr ⟨by kernel_rfl, rfl⟩) (by assumption) ?_
      try simp only [Act.put]
      refine wpAnyH_take (i := 27) (v := .bool true) rfl (by kernel_rfl) (by kernel_rfl) (by kernel_rfl) (fun _ _ _ h => h) (Or.inl ⟨by kernel_rfl, ?_⟩) (by assumption) ?_
      · (intro wS hSw; go_simp; (try simp only []))
      try simp only [Act.put]
      refine wpAnyH_done (by kernel_rfl) ?_ _
      go_simp
      go_wp2_with fail
      go_meet
      exact ⟨hHeld, rfl⟩
    | true =>
      refine wpAnyH_take (i := 4) (v := .bool false) rfl (by kernel_rfl) (by kernel_rfl) (by kernel_rfl) (fun _ _ _ h => h) (Or.inl ⟨by kernel_rfl, ?_⟩) (by assumption) ?_
      · (intro wS hSw; go_simp; (try simp only []))
      try simp only [Act.put]
      refine wpAnyH_take (i := 5) (v := ?_) rfl (by kernel_rfl) (by kernel_rfl) (by kernel_rfl) (fun _ _ _ h => h) (Or.inl ⟨by kernel_rfl, ?_⟩) (by assumption) ?_
      rotate_left 1
      · (intro wS hSw; go_simp; (try with_reducible rfl))
      try simp only [Act.put]
      refine wpAnyH_take (i := 6) (v := ?_) rfl (by kernel_rfl) (by kernel_rfl) (by kernel_rfl) (fun _ _ _ h => h) (Or.inl ⟨by kernel_rfl, ?_⟩) (by assumption) ?_
      rotate_left 1
      · (intro wS hSw; go_simp; (try with_reducible rfl))
      try simp only [Act.put]
      refine wpAnyH_take (i := 7) (v := ?_) rfl (by kernel_rfl) (by kernel_rfl) (by kernel_rfl) (fun _ _ _ h => h) (Or.inl ⟨by kernel_rfl, ?_⟩) (by assumption) ?_
      rotate_left 1
      · (intro wS hSw; have c0 := cell_still x1 hSw; go_simp; (try with_reducible rfl))
      try simp only [Act.put]
      refine wpAnyH_take (i := 8) (v := ?_) rfl (by kernel_rfl) (by kernel_rfl) (by kernel_rfl) (fun _ _ _ h => h) (Or.inl ⟨by kernel_rfl, ?_⟩) (by assumption) ?_
      rotate_left 1
      · (intro wS hSw; go_simp; (try with_reducible rfl))
      try simp only [Act.put]
      rcases HN.out with b1 | ⟨b1, b2⟩
      · skip
        refine wpAnyH_take (i := 9) (v := .bool true) rfl (by kernel_rfl) (by kernel_rfl) (by kernel_rfl) (fun _ _ _ h => h) (Or.inl ⟨by kernel_rfl, ?_⟩) (by assumption) ?_
        · (intro wS hSw; go_simp; (try simp only [b1]))
        try simp only [Act.put]
        refine wpAnyH_take (i := 10) (v := .bool true) rfl (by kernel_rfl) (by kernel_rfl) (by kernel_rfl) (fun _ _ _ h => h) (Or.inl ⟨by kernel_rfl, ?_⟩) (by assumption) ?_
        · (intro wS hSw; go_simp; (try simp only []))
        try simp only [Act.put]
        refine wpAnyH_take (i := 11) (v := ?_) rfl (by kernel_rfl) (by kernel_rfl) (by kernel_rfl) (fun _ _ _ h => h) (Or.inl ⟨by kernel_rfl, ?_⟩) (by assumption) ?_
        rotate_left 1
        · (intro wS hSw; go_simp; (try with_reducible rfl))
        try simp only [Act.put]
        refine wpAnyH_take (i := 12) (v := undef) rfl (by kernel_rfl) (by kernel_rfl) (by kernel_rfl) (fun _ _ _ h => h) (Or.inr ⟨by kernel_rfl, rfl⟩) (by assumption) ?_
        try simp only [Act.put]
        refine wpAnyH_take (i := 13) (v := undef) rfl (by kernel_rfl) (by kernel_rfl) (by kernel_rfl) (fun _ _ _ h => h) (Or.inr ⟨by kernel_rfl, rfl⟩) (by assumption) ?_
        try simp only [Act.put]
        refine wpAnyH_take (i := 14) (v := undef) rfl (by kernel_rfl) (by kernel_rfl) (by kernel_rfl) (fun _ _ _ h => h) (Or.inr ⟨by kernel_rfl, rfl⟩) (by assumption) ?_
        try simp only [Act.put]
        refine wpAnyH_take (i := 15) (v := undef) rfl (by kernel_rfl) (by kernel_rfl) (by kernel_rfl) (fun _ _ _ h => h) (Or.inr ⟨by kernel_rfl, rfl⟩) (by assumption) ?_
        try simp only [Act.put]
        refine wpAnyH_take (i := 16) (v := .bool true) rfl (by kernel_rfl) (by kernel_rfl) (by kernel_rfl) (fun _ _ _ h => h) (Or.inl ⟨by kernel_rfl, ?_⟩) (by assumption) ?_
        · (intro wS hSw; go_simp; (try simp only []))
        try simp only [Act.put]
        refine wpAnyH_take (i := 17) (v := ?_) rfl (by kernel_rfl) (by kernel_rfl) (by kernel_rfl) (fun _ _ _ h => h) (Or.inl ⟨by kernel_rfl, ?_⟩) (by assumption) ?_
        rotate_left 1
        · (intro wS hSw; go_simp; (try with_reducible rfl))
        try simp only [Act.put]
        refine wpAnyH_take (i := 18) (v := undef) rfl (by kernel_rfl) (by kernel_rfl) (by kernel_rfl) (fun _ _ _ h => h) (Or.inr ⟨by kernel_rfl, rfl⟩) (by assumption) ?_
        try simp only [Act.put]
        refine wpAnyH_take (i := 19) (v := undef) rfl (by kernel_rfl) (by kernel_rfl) (by kernel_rfl) (fun _ _ _ h => h) (Or.inr ⟨by kernel_rfl, rfl⟩) (by assumption) ?_
        try simp only [Act.put]
        refine wpAnyH_take (i := 20) (v := undef) rfl (by kernel_rfl) (by kernel_rfl) (by kernel_rfl) (fun _ _ _ h => h) (Or.inr ⟨by kernel_rfl, rfl⟩) (by assumption) ?_
        try simp only [Act.put]
        refine wpAnyH_take (i := 21) (v := undef) rfl (by kernel_rfl) (by kernel_rfl) (by kernel_rfl) (fun _ _ _ h => h) (Or.inr ⟨by kernel_rfl, rfl⟩) (by assumption) ?_
        try simp only [Act.put]
        refine wpAnyH_take (i := 22) (v := undef) rfl (by kernel_rfl) (by kernel_rfl) (by kernel_rfl) (fun _ _ _ h => h) (Or.inr ⟨by kernel_rfl, rfl⟩) (by assumption) ?_
        try simp only [Act.put]
        refine wpAnyH_take (i := 23) (v := undef) rfl (by kernel_rfl) (by kernel_rfl) (by kernel_rfl) (fun _ _ _ h => h) (Or.inr ⟨by kernel_rfl, rfl⟩) (by assumption) ?_
        try simp only [Act.put]
        refine wpAnyH_take (i := 24) (v := undef) rfl (by kernel_rfl) (by kernel_rfl) (by kernel_rfl) (fun _ _ _ h => h) (Or.inr ⟨by kernel_rfl, rfl⟩) (by assumption) ?_
        try simp only [Act.put]
        refine wpAnyH_take (i := 25) (v := undef) rfl (by kernel_rfl) (by kernel_rfl) (by kernel_rfl) (fun _ _ _ h => h) (Or.inr ⟨by kernel_rfl, rfl⟩) (by assumption) ?_
        try simp only [Act.put]
        refine wpAnyH_take (i := 26) (v := undef) rfl (by kernel_rfl) (by kernel_rfl) (by kernel_rfl) (fun _ _ _ h => h) (Or.inr ⟨by kernel_rfl, rfl⟩) (by assumption) ?_
        try simp only [Act.put]
        refine wpAnyH_take (i := 27) (v := .bool true) rfl (by kernel_rfl) (by kernel_rfl) (by kernel_rfl) (fun _ _ _ h => h) (Or.inl ⟨by kernel_rfl, ?_⟩) (by assumption) ?_
        · (intro wS hSw; go_simp; (try simp only []))
        try simp only [Act.put]
        refine wpAnyH_done (by kernel_rfl) ?_ _
        go_simp
        go_wp2_with fail
        go_meet
        exact ⟨hHeld, rfl⟩
      · skip
        refine wpAnyH_take (i := 9) (v := .bool false) rfl (by kernel_rfl) (by kernel_rfl) (by kernel_rfl) (fun _ _ _ h => h) (Or.inl ⟨by kernel_rfl, ?_⟩) (by assumption) ?_
        · (intro wS hSw; go_simp; (try simp only [b1]))
        try simp only [Act.put]
        refine wpAnyH_take (i := 10) (v := .bool false) rfl (by kernel_rfl) (by kernel_rfl) (by kernel_rfl) (fun _ _ _ h => h) (Or.inl ⟨by kernel_rfl, ?_⟩) (by assumption) ?_
        · (intro wS hSw; go_simp; (try simp only []))
        try simp only [Act.put]
        refine wpAnyH_take (i := 11) (v := ?_) rfl (by kernel_rfl) (by kernel_rfl) (by kernel_rfl) (fun _ _ _ h => h) (Or.inl ⟨by kernel_rfl, ?_⟩) (by assumption) ?_
        rotate_left 1
        · (intro wS hSw; go_simp; (try with_reducible rfl))
        try simp only [Act.put]
        refine wpAnyH_take (i := 12) (v := ?_) rfl (by kernel_rfl) (by kernel_rfl) (by kernel_rfl) (fun _ _ _ h => h) (Or.inl ⟨by kernel_rfl, ?_⟩) (by assumption) ?_
        rotate_left 1
        · (intro wS hSw; go_simp; (try with_reducible rfl))
        try simp only [Act.put]
        refine wpAnyH_take (i := 13) (v := ?_) rfl (by kernel_rfl) (by kernel_rfl) (by kernel_rfl) (fun _ _ _ h => h) (Or.inl ⟨by kernel_rfl, ?_⟩) (by assumption) ?_
        rotate_left 1
        · (intro wS hSw; have c0 := cell_still y1 hSw; go_simp; (try with_reducible rfl))
        try simp only [Act.put]
        refine wpAnyH_take (i := 14) (v := ?_) rfl (by kernel_rfl) (by kernel_rfl) (by kernel_rfl) (fun _ _ _ h => h) (Or.inl ⟨by kernel_rfl, ?_⟩) (by assumption) ?_
        rotate_left 1
        · (intro wS hSw; go_simp; (try with_reducible rfl))
        try simp only [Act.put]
        refine wpAnyH_take (i := 15) (v := .bool true) rfl (by kernel_rfl) (by kernel_rfl) (by kernel_rfl) (fun _ _ _ h => h) (Or.inl ⟨by kernel_rfl, ?_⟩) (by assumption) ?_
        · (intro wS hSw; go_simp; (try simp only [b2]))
        try simp only [Act.put]
        refine wpAnyH_take (i := 16) (v := .bool true) rfl (by kernel_rfl) (by kernel_rfl) (by kernel_rfl) (fun _ _ _ h => h) (Or.inl ⟨by kernel_rfl, ?_⟩) (by assumption) ?_
        · (intro wS hSw; go_simp; (try simp only []))
        try simp only [Act.put]
        refine wpAnyH_take (i := 17) (v := ?_) rfl (by kernel_rfl) (by kernel_rfl) (by kernel_rfl) (fun _ _ _ h => h) (Or.inl ⟨by kernel_rfl, ?_⟩) (by assumption) ?_
        rotate_left 1
        · (intro wS hSw; go_simp; (try with_reducible rfl))
        try simp only [Act.put]
        refine wpAnyH_take (i := 18) (v := undef) rfl (by kernel_rfl) (by kernel_rfl) (by kernel_rfl) (fun _ _ _ h => h) (Or.inr ⟨by kernel_rfl, rfl⟩) (by assumption) ?_
        try simp only [Act.put]
        refine wpAnyH_take (i := 19) (v := undef) rfl (by kernel_rfl) (by kernel_rfl) (by kernel_rfl) (fun _ _ _ h => h) (Or.inr ⟨by kernel_rfl, rfl⟩) (by assumption) ?_
        try simp only [Act.put]
        refine wpAnyH_take (i := 20) (v := undef) rfl (by kernel_rfl) (by kernel_rfl) (by kernel_rfl) (fun _ _ _ h => h) (Or.inr ⟨by kernel_rfl, rfl⟩) (by assumption) ?_
        try simp only [Act.put]
        refine wpAnyH_take (i := 21) (v := undef) rfl (by kernel_rfl) (by kernel_rfl) (by kernel_rfl) (fun _ _ _ h => h) (Or.inr ⟨by kernel_rfl, rfl⟩) (by assumption) ?_
        try simp only [Act.put]
        refine wpAnyH_take (i := 22) (v := undef) rfl (by kernel_rfl) (by kernel_rfl) (by kernel_rfl) (fun _ _ _ h => h) (Or.inr ⟨by kernel_rfl, rfl⟩) (by assumption) ?_
        try simp only [Act.put]
        refine wpAnyH_take (i := 23) (v := undef) rfl (by kernel_rfl) (by kernel_rfl) (by kernel_rfl) (fun _ _ _ h => h) (Or.inr ⟨by kernel_rfl, rfl⟩) (by assumption) ?_
        try simp only [Act.put]
        refine wpAnyH_take (i := 24) (v := undef) rfl (by kernel_rfl) (by kernel_rfl) (by kernel_rfl) (fun _ _ _ h => h) (Or.inr ⟨by kernel_rfl, rfl⟩) (by assumption) ?_
        try simp only [Act.put]
        refine wpAnyH_take (i := 25) (v := undef) rfl (by kernel_rfl) (by kernel_rfl) (by kernel_rfl) (fun _ _ _ h => h) (Or.inr ⟨by kernel_rfl, rfl⟩) (by assumption) ?_
        try simp only [Act.put]
        refine wpAnyH_take (i := 26) (v := undef) rfl (by kernel_rfl) (by kernel_rfl) (by kernel_rfl) (fun _ _ _ h => h) (Or.inr ⟨by kernel_rfl, rfl⟩) (by assumption) ?_
        try simp only [Act.put]
        refine wpAnyH_take (i := 27) (v := .bool true) rfl (by kernel_rfl) (by kernel_rfl) (by kernel_rfl) (fun _ _ _ h => h) (Or.inl ⟨by kernel_rfl, ?_⟩) (by assumption) ?_
        · (intro wS hSw; go_simp; (try simp only []))
        try simp only [Act.put]
        refine wpAnyH_done (by kernel_rfl) ?_ _
        go_simp
        go_wp2_with fail
        go_meet
        exact ⟨hHeld, rfl⟩
  case rest =>
    obtain ⟨hg1, rfl⟩ := hcut
    have G1 := hide (grown_trans G0.out hg1)
    have L1 := hide (LV.out wc G1.out)
    go_wp2_with fail
    refine L1.out.mono ?_
    rintro e w2 ⟨rfl, hg2⟩
    go_wp2
    go_ret
    exact ⟨rfl, grown_below (grown_trans G1.out hg2)⟩

set_option maxRecDepth 100000 in
set_option maxHeartbeats 16000000 in
theorem linearBatch_three (X : Ten) {x xs : List Int} (Y : Ten) {y ys : List Int} (row : Int) (w : World) (hl : Laid w) (hx : IsInts w X.dv.v x) (hxs : IsInts w X.tv.v xs) (hy : IsInts w Y.dv.v y) (hys : IsInts w Y.tv.v ys) (hrow : -9223372036854775808 ≤ row ∧ row ≤ 9223372036854775807) (h3 : x.length = 3) (h4 : y.length = 3) : Calls Tryz.prog 8 #[tval X, tval Y, .int .i64 row] w fun e w' => e = .returned (.bool true) ∧ Below w.heap.size w w' := by
  have HL := hide hl
  have HX := hide hx
  have HXS := hide hxs
  have HY := hide hy
  have HYS := hide hys
  obtain ⟨_, _, ex, -⟩ := hx.sl
  obtain ⟨_, _, ey, -⟩ := hy.sl
  clear hl hx hxs hy hys
  obtain ⟨tx, ⟨xa, xn, xc⟩, ⟨ua, un, uc⟩⟩ := X
  obtain ⟨ty, ⟨ya, yn, yc⟩, ⟨va, vn, vc⟩⟩ := Y
  simp only [Sl.v, Value.slice.injEq] at ex ey
  obtain ⟨-, rfl, -⟩ := ex
  obtain ⟨-, rfl, -⟩ := ey
  simp only [Sl.v] at HX HXS HY HYS
  obtain ⟨xb, xo, rfl, hcx⟩ := HX.out.get (k := 0) (by omega)
  obtain ⟨yb, yo, rfl, hcy⟩ := HY.out.get (k := 0) (by omega)
  obtain ⟨_, _, exx, hxc, -⟩ := HX.out.sl
  obtain ⟨_, _, eyy, hyc, -⟩ := HY.out.sl
  simp only [Value.slice.injEq] at exx eyy
  obtain ⟨-, -, exx⟩ := exx
  obtain ⟨-, -, eyy⟩ := eyy
  subst exx eyy
  obtain ⟨Cx, hCx⟩ : ∃ C, xc = 1 + C := ⟨xc - 1, by omega⟩
  obtain ⟨Cy, hCy⟩ : ∃ C, yc = 1 + C := ⟨yc - 1, by omega⟩
  subst hCx hCy
  have C2x : 2 ≤ Cx := by omega
  have C2y : 2 ≤ Cy := by omega
  have q0 := hcx 0 (by omega)
  have q1 := hcx 1 (by omega)
  have q2 := hcx 2 (by omega)
  have r0 := hcy 0 (by omega)
  have r1 := hcy 1 (by omega)
  have r2 := hcy 2 (by omega)
  simp only [Nat.add_zero] at q0 r0
  have X3 := hide h3
  have Y3 := hide h4
  rw [h3] at HX ⊢
  rw [h4] at HY ⊢
  clear hcx hcy hxc hyc h3 h4
  unfold tval
  simp only
  obtain ⟨w0, hw0⟩ : ∃ w0, w0 = (w.alloc (.cells #[.int .i64 tx, .slice (some ⟨xb, xo, none⟩) 3 (1 + Cx), .slice ua un uc] 32)).alloc (.cells #[.int .i64 ty, .slice (some ⟨yb, yo, none⟩) 3 (1 + Cy), .slice va vn vc] 32) := ⟨_, rfl⟩
  have hbx := two_boxes w (.cells #[.int .i64 tx, .slice (some ⟨xb, xo, none⟩) 3 (1 + Cx), .slice ua un uc] 32) (.cells #[.int .i64 ty, .slice (some ⟨yb, yo, none⟩) 3 (1 + Cy), .slice va vn vc] 32)
  rw [← hw0] at hbx
  have g0 : w.grownBy w0 none := by rw [hw0]; exact grown_trans (grown_new _ _) (grown_new _ _)
  have BX : Hid (∀ wx, w0.grownBy wx none → wx.heap[w.heap.size]? = some (.cells #[.int .i64 tx, .slice (some ⟨xb, xo, none⟩) 3 (1 + Cx), .slice ua un uc] 32 (0, 0)) ∧ wx.heap[w.heap.size + 1]? = some (.cells #[.int .i64 ty, .slice (some ⟨yb, yo, none⟩) 3 (1 + Cy), .slice va vn vc] 32 (0, 0))) := fun wx hx => ⟨box_kept hbx.1 hx, box_kept hbx.2 hx⟩
  have LV : Hid (∀ wx, w.grownBy wx none → Calls Tryz.prog 15 #[] wx fun e w' => e = .returned (.bool true) ∧ wx.grownBy w' none) := fun wx hx => live12_any wx (HL.out.more hx)
  have SM : Hid (∀ wx, w0.grownBy wx none → wx.heap[w0.heap.size]? = some (.cells #[.int .i64 tx, .slice (some ⟨xb, xo, none⟩) 3 (1 + Cx), .slice ua un uc, .int .i64 ty, .slice (some ⟨yb, yo, none⟩) 3 (1 + Cy), .slice va vn vc] 32 (0, 0)) → Calls Tryz.prog 14 #[.slice (some ⟨w0.heap.size, 0, none⟩) 2 2] wx fun e w' => ∃ b : Bool, e = .returned (.bool b) ∧ wx.grownBy w' none) := fun wx hx hb => by
    have hgx := grown_trans g0 hx
    exact small12_any ⟨some ⟨w0.heap.size, 0, none⟩, 2, 2⟩ _ wx (two_tens ⟨tx, ⟨_, _, _⟩, ⟨ua, un, uc⟩⟩ ⟨ty, ⟨_, _, _⟩, ⟨va, vn, vc⟩⟩ hb (HX.out.more hgx) (HXS.out.more hgx) (HY.out.more hgx) (HYS.out.more hgx))
  obtain ⟨x0, x1, x2⟩ := ten_cells hbx.1
  obtain ⟨y0, y1, y2⟩ := ten_cells hbx.2
  have G0 := hide g0
  have DW : Hid (∀ wx, w.grownBy wx none → wx.cell? ⟨xb, xo, none⟩ = some (.int .i64 (x.getD 0 0)) ∧ wx.cell? ⟨xb, xo + 1, none⟩ = some (.int .i64 (x.getD 1 0)) ∧ wx.cell? ⟨xb, xo + 2, none⟩ = some (.int .i64 (x.getD 2 0)) ∧ wx.cell? ⟨yb, yo, none⟩ = some (.int .i64 (y.getD 0 0)) ∧ wx.cell? ⟨yb, yo + 1, none⟩ = some (.int .i64 (y.getD 1 0)) ∧ wx.cell? ⟨yb, yo + 2, none⟩ = some (.int .i64 (y.getD 2 0))) := fun wx hx => ⟨cell_still q0 hx, cell_still q1 hx, cell_still q2 hx, cell_still r0 hx, cell_still r1 hx, cell_still r2 hx⟩
  obtain ⟨d0, -, -, e0, -, -⟩ := DW.out w0 g0
  obtain ⟨zx, hzx⟩ : ∃ z, z = x.getD 0 0 := ⟨_, rfl⟩
  obtain ⟨zy, hzy⟩ : ∃ z, z = y.getD 0 0 := ⟨_, rfl⟩
  rw [← hzx] at d0
  rw [← hzy] at e0
  have ZX := hide hzx
  have ZY := hide hzy
  clear hbx g0 q0 q1 q2 r0 r1 r2 hzx hzy
  go_enter Tryz.func8, Tryz.ntmps8
  go_wp2_with fail
  rw [← hw0]
  clear hw0
  go_cut [42] from 15 (fun v wx => w0.grownBy wx none ∧ ∃ bz : Bool, v = .bool bz ∧ (bz = false → zx = zy))
  case first =>
    refine wp_region_held_drew (S := fun w' => w0.grownBy w' none) (by kernel_rfl) (by repeat (first | exact grown_refl _ | refine grown_drew ?_)) (fun hHeld => ?_)
    refine wpAnyH_take (i := 0) (v := ?_) rfl (by kernel_rfl) (by kernel_rfl) (by kernel_rfl) (fun _ _ _ h => h) (Or.inl ⟨by kernel_rfl, ?_⟩) (by assumption) ?_
    rotate_left 1
    · (intro wS hSw; have c0 := cell_still x0 hSw; have c1 := cell_still x1 hSw; have c2 := cell_still x2 hSw; go_simp; (try with_reducible rfl))
    try simp only [Act.put]
    refine wpAnyH_take (i := 1) (v := ?_) rfl (by kernel_rfl) (by kernel_rfl) (by kernel_rfl) (fun _ _ _ h => h) (Or.inl ⟨by kernel_rfl, ?_⟩) (by assumption) ?_
    rotate_left 1
    · (intro wS hSw; have c0 := cell_still y0 hSw; have c1 := cell_still y1 hSw; have c2 := cell_still y2 hSw; go_simp; (try with_reducible rfl))
    try simp only [Act.put]
    refine wpAnyH_ready (rs := [2]) (by kernel_rfl) (by simp) ?_
    refine AllReadyH.cons rfl (fun K hK => ?_) AllReadyH.nil
    go_simp
    refine hK.out _ _ (by show w0.grownBy _ none; (first | assumption | (repeat (first | assumption | exact grown_refl _ | refine grown_drew ?_ | refine grown_trans ?_ (grown_new _ _))))) (fun hHeld => ?_)
    clear hK K
    try simp only [Act.put]
    have zT : ((w0.alloc (.cells #[.int .i64 tx, .slice (some ⟨xb, xo, none⟩) 3 (1 + Cx), .slice ua un uc, .int .i64 ty, .slice (some ⟨yb, yo, none⟩) 3 (1 + Cy), .slice va vn vc] 32)).drew).heap[w0.heap.size]? = some (.cells #[.int .i64 tx, .slice (some ⟨xb, xo, none⟩) 3 (1 + Cx), .slice ua un uc, .int .i64 ty, .slice (some ⟨yb, yo, none⟩) 3 (1 + Cy), .slice va vn vc] 32 (0, 0)) := heap_alloc_new w0 (.cells #[.int .i64 tx, .slice (some ⟨xb, xo, none⟩) 3 (1 + Cx), .slice ua un uc, .int .i64 ty, .slice (some ⟨yb, yo, none⟩) 3 (1 + Cy), .slice va vn vc] 32)
    generalize eT : (w0.alloc (.cells #[.int .i64 tx, .slice (some ⟨xb, xo, none⟩) 3 (1 + Cx), .slice ua un uc, .int .i64 ty, .slice (some ⟨yb, yo, none⟩) 3 (1 + Cy), .slice va vn vc] 32)).drew = v1 at zT hHeld ⊢
    have g1 : w0.grownBy v1 none := hHeld
    clear eT
    refine wpAnyH_ready (rs := [3]) (by kernel_rfl) (by simp) ?_
    refine AllReadyH.cons rfl (fun K hK => ?_) AllReadyH.nil
    go_simp
    refine (SM.out v1 g1 zT).mono ?_
    rintro e v2 ⟨bb, rfl, hy2⟩
    refine hK.out _ _ (grown_trans g1 hy2) (fun hHeld => ?_)
    clear hK K zT g1 hy2
    try simp only [Act.put]
    cases bb with
    | false =>
      refine wpAnyH_take (i := 4) (v := .bool true) rfl (by kernel_rfl) (by kernel_rfl) (by kernel_rfl) (fun _ _ _ h => h) (Or.inl ⟨by kernel_rfl, ?_⟩) (by assumption) ?_
      · (intro wS hSw; go_simp; (try simp only []))
      try simp only [Act.put]
      refine wpAnyH_take (i := 5) (v := ?_) rfl (by kernel_rfl) (by kernel_rfl) (by kernel_rfl) (fun _ _ _ h => h) (Or.inl ⟨by kernel_rfl, ?_⟩) (by assumption) ?_
      rotate_left 1
      · (intro wS hSw; go_simp; (try with_reducible rfl))
      try simp only [Act.put]
      refine wpAnyH_take (i := 6) (v := undef) rfl (by kernel_rfl) (by kernel_rfl) (by kernel_rfl) (fun _ _ _ h => h) (Or.inr ⟨by kernel_rfl, rfl⟩) (by assumption) ?_
      try simp only [Act.put]
      refine wpAnyH_take (i := 7) (v := undef) rfl (by kernel_rfl) (by kernel_rfl) (by kernel_rfl) (fun _ _ _ h => h) (Or.inr ⟨by kernel_rfl, rfl⟩) (by assumption) ?_
      try simp only [Act.put]
      refine wpAnyH_take (i := 8) (v := undef) rfl (by kernel_rfl) (by kernel_rfl) (by kernel_rfl) (fun _ _ _ h => h) (Or.inr ⟨by kernel_rfl, rfl⟩) (by assumption) ?_
      try simp only [Act.put]
      refine wpAnyH_take (i := 9) (v := undef) rfl (by kernel_rfl) (by kernel_rfl) (by kernel_rfl) (fun _ _ _ h => h) (Or.inr ⟨by kernel_rfl, rfl⟩) (by assumption) ?_
      try simp only [Act.put]
      refine wpAnyH_take (i := 10) (v := .bool true) rfl (by kernel_rfl) (by kernel_rfl) (by kernel_rfl) (fun _ _ _ h => h) (Or.inl ⟨by kernel_rfl, ?_⟩) (by assumption) ?_
      · (intro wS hSw; go_simp; (try simp only []))
      try simp only [Act.put]
      refine wpAnyH_take (i := 11) (v := ?_) rfl (by kernel_rfl) (by kernel_rfl) (by kernel_rfl) (fun _ _ _ h => h) (Or.inl ⟨by kernel_rfl, ?_⟩) (by assumption) ?_
      rotate_left 1
      · (intro wS hSw; go_simp; (try with_reducible rfl))
      try simp only [Act.put]
      refine wpAnyH_take (i := 12) (v := undef) rfl (by kernel_rfl) (by kernel_rfl) (by kernel_rfl) (fun _ _ _ h => h) (Or.inr ⟨by kernel_rfl, rfl⟩) (by assumption) ?_
      try simp only [Act.put]
      refine wpAnyH_take (i := 13) (v := undef) rfl (by kernel_rfl) (by kernel_rfl) (by kernel_rfl) (fun _ _ _ h => h) (Or.inr ⟨by kernel_rfl, rfl⟩) (by assumption) ?_
      try simp only [Act.put]
      refine wpAnyH_take (i := 14) (v := undef) rfl (by kernel_rfl) (by kernel_rfl) (by kernel_rfl) (fun _ _ _ h => h) (Or.inr ⟨by kernel_rfl, rfl⟩) (by assumption) ?_
      try simp only [Act.put]
      refine wpAnyH_take (i := 15) (v := undef) rfl (by kernel_rfl) (by kernel_rfl) (by kernel_rfl) (fun _ _ _ h => h) (Or.inr ⟨by kernel_rfl, rfl⟩) (by assumption) ?_
      try simp only [Act.put]
      refine wpAnyH_take (i := 16) (v := .bool true) rfl (by kernel_rfl) (by kernel_rfl) (by kernel_rfl) (fun _ _ _ h => h) (Or.inl ⟨by kernel_rfl, ?_⟩) (by assumption) ?_
      · (intro wS hSw; go_simp; (try simp only []))
      try simp only [Act.put]
      refine wpAnyH_take (i := 17) (v := ?_) rfl (by kernel_rfl) (by kernel_rfl) (by kernel_rfl) (fun _ _ _ h => h) (Or.inl ⟨by kernel_rfl, ?_⟩) (by assumption) ?_
      rotate_left 1
      · (intro wS hSw; go_simp; (try with_reducible rfl))
      try simp only [Act.put]
      refine wpAnyH_take (i := 18) (v := undef) rfl (by kernel_rfl) (by kernel_rfl) (by kernel_rfl) (fun _ _ _ h => h) (Or.inr ⟨by kernel_rfl, rfl⟩) (by assumption) ?_
      try simp only [Act.put]
      refine wpAnyH_take (i := 19) (v := undef) rfl (by kernel_rfl) (by kernel_rfl) (by kernel_rfl) (fun _ _ _ h => h) (Or.inr ⟨by kernel_rfl, rfl⟩) (by assumption) ?_
      try simp only [Act.put]
      refine wpAnyH_take (i := 20) (v := undef) rfl (by kernel_rfl) (by kernel_rfl) (by kernel_rfl) (fun _ _ _ h => h) (Or.inr ⟨by kernel_rfl, rfl⟩) (by assumption) ?_
      try simp only [Act.put]
      refine wpAnyH_take (i := 21) (v := undef) rfl (by kernel_rfl) (by kernel_rfl) (by kernel_rfl) (fun _ _ _ h => h) (Or.inr ⟨by kernel_rfl, rfl⟩) (by assumption) ?_
      try simp only [Act.put]
      refine wpAnyH_take (i := 22) (v := undef) rfl (by kernel_rfl) (by kernel_rfl) (by kernel_rfl) (fun _ _ _ h => h) (Or.inr ⟨by kernel_rfl, rfl⟩) (by assumption) ?_
      try simp only [Act.put]
      refine wpAnyH_take (i := 23) (v := undef) rfl (by kernel_rfl) (by kernel_rfl) (by kernel_rfl) (fun _ _ _ h => h) (Or.inr ⟨by kernel_rfl, rfl⟩) (by assumption) ?_
      try simp only [Act.put]
      refine wpAnyH_take (i := 24) (v := undef) rfl (by kernel_rfl) (by kernel_rfl) (by kernel_rfl) (fun _ _ _ h => h) (Or.inr ⟨by kernel_rfl, rfl⟩) (by assumption) ?_
      try simp only [Act.put]
      refine wpAnyH_take (i := 25) (v := undef) rfl (by kernel_rfl) (by kernel_rfl) (by kernel_rfl) (fun _ _ _ h => h) (Or.inr ⟨by kernel_rfl, rfl⟩) (by assumption) ?_
      try simp only [Act.put]
      refine wpAnyH_take (i := 26) (v := undef) rfl (by kernel_rfl) (by kernel_rfl) (by kernel_rfl) (fun _ _ _ h => h) (Or.inr ⟨by kernel_rfl, rfl⟩) (by assumption) ?_
      try simp only [Act.put]
      refine wpAnyH_take (i := 27) (v := .bool true) rfl (by kernel_rfl) (by kernel_rfl) (by kernel_rfl) (fun _ _ _ h => h) (Or.inl ⟨by kernel_rfl, ?_⟩) (by assumption) ?_
      · (intro wS hSw; go_simp; (try simp only []))
      try simp only [Act.put]
      refine wpAnyH_done (by kernel_rfl) ?_ _
      go_simp
      go_wp2_with fail
      go_meet
      exact ⟨hHeld, true, rfl, fun h => by cases h⟩
    | true =>
      refine wpAnyH_take (i := 4) (v := .bool false) rfl (by kernel_rfl) (by kernel_rfl) (by kernel_rfl) (fun _ _ _ h => h) (Or.inl ⟨by kernel_rfl, ?_⟩) (by assumption) ?_
      · (intro wS hSw; go_simp; (try simp only []))
      try simp only [Act.put]
      refine wpAnyH_take (i := 5) (v := ?_) rfl (by kernel_rfl) (by kernel_rfl) (by kernel_rfl) (fun _ _ _ h => h) (Or.inl ⟨by kernel_rfl, ?_⟩) (by assumption) ?_
      rotate_left 1
      · (intro wS hSw; go_simp; (try with_reducible rfl))
      try simp only [Act.put]
      refine wpAnyH_take (i := 6) (v := ?_) rfl (by kernel_rfl) (by kernel_rfl) (by kernel_rfl) (fun _ _ _ h => h) (Or.inl ⟨by kernel_rfl, ?_⟩) (by assumption) ?_
      rotate_left 1
      · (intro wS hSw; go_simp; (try with_reducible rfl))
      try simp only [Act.put]
      refine wpAnyH_take (i := 7) (v := ?_) rfl (by kernel_rfl) (by kernel_rfl) (by kernel_rfl) (fun _ _ _ h => h) (Or.inl ⟨by kernel_rfl, ?_⟩) (by assumption) ?_
      rotate_left 1
      · (intro wS hSw; have c0 := cell_still x1 hSw; go_simp; (try with_reducible rfl))
      try simp only [Act.put]
      refine wpAnyH_take (i := 8) (v := ?_) rfl (by kernel_rfl) (by kernel_rfl) (by kernel_rfl) (fun _ _ _ h => h) (Or.inl ⟨by kernel_rfl, ?_⟩) (by assumption) ?_
      rotate_left 1
      · (intro wS hSw; go_simp; (try with_reducible rfl))
      try simp only [Act.put]
      refine wpAnyH_take (i := 9) (v := .bool false) rfl (by kernel_rfl) (by kernel_rfl) (by kernel_rfl) (fun _ _ _ h => h) (Or.inl ⟨by kernel_rfl, ?_⟩) (by assumption) ?_
      · (intro wS hSw; go_simp; (try simp only []))
      try simp only [Act.put]
      refine wpAnyH_take (i := 10) (v := .bool false) rfl (by kernel_rfl) (by kernel_rfl) (by kernel_rfl) (fun _ _ _ h => h) (Or.inl ⟨by kernel_rfl, ?_⟩) (by assumption) ?_
      · (intro wS hSw; go_simp; (try simp only []))
      try simp only [Act.put]
      refine wpAnyH_take (i := 11) (v := ?_) rfl (by kernel_rfl) (by kernel_rfl) (by kernel_rfl) (fun _ _ _ h => h) (Or.inl ⟨by kernel_rfl, ?_⟩) (by assumption) ?_
      rotate_left 1
      · (intro wS hSw; go_simp; (try with_reducible rfl))
      try simp only [Act.put]
      refine wpAnyH_take (i := 12) (v := ?_) rfl (by kernel_rfl) (by kernel_rfl) (by kernel_rfl) (fun _ _ _ h => h) (Or.inl ⟨by kernel_rfl, ?_⟩) (by assumption) ?_
      rotate_left 1
      · (intro wS hSw; go_simp; (try with_reducible rfl))
      try simp only [Act.put]
      refine wpAnyH_take (i := 13) (v := ?_) rfl (by kernel_rfl) (by kernel_rfl) (by kernel_rfl) (fun _ _ _ h => h) (Or.inl ⟨by kernel_rfl, ?_⟩) (by assumption) ?_
      rotate_left 1
      · (intro wS hSw; have c0 := cell_still y1 hSw; go_simp; (try with_reducible rfl))
      try simp only [Act.put]
      refine wpAnyH_take (i := 14) (v := ?_) rfl (by kernel_rfl) (by kernel_rfl) (by kernel_rfl) (fun _ _ _ h => h) (Or.inl ⟨by kernel_rfl, ?_⟩) (by assumption) ?_
      rotate_left 1
      · (intro wS hSw; go_simp; (try with_reducible rfl))
      try simp only [Act.put]
      refine wpAnyH_take (i := 15) (v := .bool false) rfl (by kernel_rfl) (by kernel_rfl) (by kernel_rfl) (fun _ _ _ h => h) (Or.inl ⟨by kernel_rfl, ?_⟩) (by assumption) ?_
      · (intro wS hSw; go_simp; (try simp only []))
      try simp only [Act.put]
      refine wpAnyH_take (i := 16) (v := .bool false) rfl (by kernel_rfl) (by kernel_rfl) (by kernel_rfl) (fun _ _ _ h => h) (Or.inl ⟨by kernel_rfl, ?_⟩) (by assumption) ?_
      · (intro wS hSw; go_simp; (try simp only []))
      try simp only [Act.put]
      refine wpAnyH_take (i := 17) (v := ?_) rfl (by kernel_rfl) (by kernel_rfl) (by kernel_rfl) (fun _ _ _ h => h) (Or.inl ⟨by kernel_rfl, ?_⟩) (by assumption) ?_
      rotate_left 1
      · (intro wS hSw; go_simp; (try with_reducible rfl))
      try simp only [Act.put]
      refine wpAnyH_take (i := 18) (v := ?_) rfl (by kernel_rfl) (by kernel_rfl) (by kernel_rfl) (fun _ _ _ h => h) (Or.inl ⟨by kernel_rfl, ?_⟩) (by assumption) ?_
      rotate_left 1
      · (intro wS hSw; go_simp; (try with_reducible rfl))
      try simp only [Act.put]
      refine wpAnyH_take (i := 19) (v := ?_) rfl (by kernel_rfl) (by kernel_rfl) (by kernel_rfl) (fun _ _ _ h => h) (Or.inl ⟨by kernel_rfl, ?_⟩) (by assumption) ?_
      rotate_left 1
      · (intro wS hSw; have c0 := cell_still x1 hSw; go_simp; (try with_reducible rfl))
      try simp only [Act.put]
      refine wpAnyH_take (i := 20) (v := ?_) rfl (by kernel_rfl) (by kernel_rfl) (by kernel_rfl) (fun _ _ _ h => h) (Or.inl ⟨by kernel_rfl, ?_⟩) (by assumption) ?_
      rotate_left 1
      · (intro wS hSw; go_simp; (try with_reducible rfl))
      try simp only [Act.put]
      refine wpAnyH_take (i := 21) (v := ?_) rfl (by kernel_rfl) (by kernel_rfl) (by kernel_rfl) (fun _ _ _ h => h) (Or.inl ⟨by kernel_rfl, ?_⟩) (by assumption) ?_
      rotate_left 1
      · (intro wS hSw; have c0 := cell_still d0 hSw; go_simp; (try with_reducible rfl))
      try simp only [Act.put]
      refine wpAnyH_take (i := 22) (v := ?_) rfl (by kernel_rfl) (by kernel_rfl) (by kernel_rfl) (fun _ _ _ h => h) (Or.inl ⟨by kernel_rfl, ?_⟩) (by assumption) ?_
      rotate_left 1
      · (intro wS hSw; go_simp; (try with_reducible rfl))
      try simp only [Act.put]
      refine wpAnyH_take (i := 23) (v := ?_) rfl (by kernel_rfl) (by kernel_rfl) (by kernel_rfl) (fun _ _ _ h => h) (Or.inl ⟨by kernel_rfl, ?_⟩) (by assumption) ?_
      rotate_left 1
      · (intro wS hSw; have c0 := cell_still y1 hSw; go_simp; (try with_reducible rfl))
      try simp only [Act.put]
      refine wpAnyH_take (i := 24) (v := ?_) rfl (by kernel_rfl) (by kernel_rfl) (by kernel_rfl) (fun _ _ _ h => h) (Or.inl ⟨by kernel_rfl, ?_⟩) (by assumption) ?_
      rotate_left 1
      · (intro wS hSw; go_simp; (try with_reducible rfl))
      try simp only [Act.put]
      refine wpAnyH_take (i := 25) (v := ?_) rfl (by kernel_rfl) (by kernel_rfl) (by kernel_rfl) (fun _ _ _ h => h) (Or.inl ⟨by kernel_rfl, ?_⟩) (by assumption) ?_
      rotate_left 1
      · (intro wS hSw; have c0 := cell_still e0 hSw; go_simp; (try with_reducible rfl))
      try simp only [Act.put]
      by_cases h5 : zx = zy
      · have b3 : (zx != zy) = false := by simp [h5]
        have H5 := hide h5
        clear h5
        refine wpAnyH_take (i := 26) (v := .bool false) rfl (by kernel_rfl) (by kernel_rfl) (by kernel_rfl) (fun _ _ _ h => h) (Or.inl ⟨by kernel_rfl, ?_⟩) (by assumption) ?_
        · (intro wS hSw; go_simp; (try simp only [b3]))
        try simp only [Act.put]
        refine wpAnyH_take (i := 27) (v := .bool false) rfl (by kernel_rfl) (by kernel_rfl) (by kernel_rfl) (fun _ _ _ h => h) (Or.inl ⟨by kernel_rfl, ?_⟩) (by assumption) ?_
        · (intro wS hSw; go_simp; (try simp only []))
        try simp only [Act.put]
        refine wpAnyH_done (by kernel_rfl) ?_ _
        go_simp
        go_wp2_with fail
        go_meet
        exact ⟨hHeld, false, rfl, fun _ => H5.out⟩
      · have b3 : (zx != zy) = true := by simp [h5]
        refine wpAnyH_take (i := 26) (v := .bool true) rfl (by kernel_rfl) (by kernel_rfl) (by kernel_rfl) (fun _ _ _ h => h) (Or.inl ⟨by kernel_rfl, ?_⟩) (by assumption) ?_
        · (intro wS hSw; go_simp; (try simp only [b3]))
        try simp only [Act.put]
        refine wpAnyH_take (i := 27) (v := .bool true) rfl (by kernel_rfl) (by kernel_rfl) (by kernel_rfl) (fun _ _ _ h => h) (Or.inl ⟨by kernel_rfl, ?_⟩) (by assumption) ?_
        · (intro wS hSw; go_simp; (try simp only []))
        try simp only [Act.put]
        refine wpAnyH_done (by kernel_rfl) ?_ _
        go_simp
        go_wp2_with fail
        go_meet
        exact ⟨hHeld, true, rfl, fun h => by cases h⟩
  case rest =>
    obtain ⟨hg1, bz, rfl, hbz⟩ := hcut
    have G01 := hide hg1
    have G1 := hide (grown_trans G0.out hg1)
    have L1 := hide (LV.out wc G1.out)
    have HBZ := hide hbz
    clear hbz d0 e0
    cases bz with
    | true =>
      clear hg1
      go_wp2_with fail
      refine L1.out.mono ?_
      rintro e w2 ⟨rfl, hg2⟩
      go_wp2
      go_ret
      exact ⟨rfl, grown_below (grown_trans G1.out hg2)⟩
    | false =>
      have XY0 : Hid (x.getD 0 0 = y.getD 0 0) := by show _ = _; rw [← ZX.out, ← ZY.out]; exact HBZ.out rfl
      clear HBZ ZX ZY x0 x1 x2 y0 y1 y2 SM
      obtain ⟨wN, hwN⟩ : ∃ wN, wN = (wc.alloc (.cells #[.string ⟨#[120]⟩, .string ⟨#[121]⟩] 9)).alloc (.cells #[.string ⟨#[77, 97, 116, 77, 117, 108]⟩, .string ⟨#[]⟩, .slice (some ⟨wc.heap.size, 0, none⟩) 2 2, .string ⟨#[122]⟩, .slice none 0 0] 25) := ⟨_, rfl⟩
      obtain ⟨wT, hwT⟩ : ∃ wT, wT = wN.alloc (.cells #[.int .i64 tx, .slice (some ⟨xb, xo, none⟩) 3 (1 + Cx), .slice ua un uc, .int .i64 ty, .slice (some ⟨yb, yo, none⟩) 3 (1 + Cy), .slice va vn vc] 32) := ⟨_, rfl⟩
      have hbT := three_boxes wc (.cells #[.string ⟨#[120]⟩, .string ⟨#[121]⟩] 9) (.cells #[.string ⟨#[77, 97, 116, 77, 117, 108]⟩, .string ⟨#[]⟩, .slice (some ⟨wc.heap.size, 0, none⟩) 2 2, .string ⟨#[122]⟩, .slice none 0 0] 25) (.cells #[.int .i64 tx, .slice (some ⟨xb, xo, none⟩) 3 (1 + Cx), .slice ua un uc, .int .i64 ty, .slice (some ⟨yb, yo, none⟩) 3 (1 + Cy), .slice va vn vc] 32)
      rw [← hwN, ← hwT] at hbT
      have hbN := two_boxes wc (.cells #[.string ⟨#[120]⟩, .string ⟨#[121]⟩] 9) (.cells #[.string ⟨#[77, 97, 116, 77, 117, 108]⟩, .string ⟨#[]⟩, .slice (some ⟨wc.heap.size, 0, none⟩) 2 2, .string ⟨#[122]⟩, .slice none 0 0] 25)
      rw [← hwN] at hbN
      have gN : wc.grownBy wN none := by rw [hwN]; exact grown_trans (grown_new _ _) (grown_new _ _)
      have gT : wc.grownBy wT none := by rw [hwT]; exact grown_trans gN (grown_new _ _)
      have GT := hide (grown_trans G1.out gT)
      have ht : Twin x y := by
        match x, y, X3.out, Y3.out, XY0.out with
        | [z, p0, q0], [z', p1, q1], _, _, e =>
          simp only [List.getD_cons_zero] at e
          subst e
          exact ⟨[z], p0, q0, p1, q1, by simp, rfl, rfl⟩
      have E1 := hide (matmul_do ⟨#[122]⟩ ⟨some ⟨wc.heap.size, 0, none⟩, 2, 2⟩ ⟨#[120]⟩ ⟨#[121]⟩ (by kernel_rfl) (by decide) ⟨some ⟨wc.heap.size + 1 + 1, 0, none⟩, 2, 2⟩ ⟨tx, ⟨some ⟨xb, xo, none⟩, 3, 1 + Cx⟩, ⟨ua, un, uc⟩⟩ ⟨ty, ⟨some ⟨yb, yo, none⟩, 3, 1 + Cy⟩, ⟨va, vn, vc⟩⟩ x y xs ys wT ht (HL.out.more GT.out) (xy_strs hbT.1) (two_tens _ _ hbT.2.2 (HX.out.more GT.out) (HXS.out.more GT.out) (HY.out.more GT.out) (HYS.out.more GT.out)))
      unfold nval nilS at E1
      simp only at E1
      obtain ⟨r, hr⟩ : ∃ r, r = mmR tx ty x y xs ys := ⟨_, rfl⟩
      have HR := hide hr
      rw [← hr] at E1
      have G0T := hide (grown_trans hg1 gT)
      have BN : Hid (∀ wx, wT.grownBy wx none → wx.heap[wc.heap.size]? = some (.cells #[.string ⟨#[120]⟩, .string ⟨#[121]⟩] 9 (0, 0)) ∧ wx.heap[wc.heap.size + 1]? = some (.cells #[.string ⟨#[77, 97, 116, 77, 117, 108]⟩, .string ⟨#[]⟩, .slice (some ⟨wc.heap.size, 0, none⟩) 2 2, .string ⟨#[122]⟩, .slice none 0 0] 25 (0, 0))) := fun wx hx => ⟨box_kept hbT.1 hx, box_kept hbT.2.1 hx⟩
      obtain ⟨a0, a1, a2⟩ := ten_cells (BX.out _ (grown_trans hg1 gN)).1
      obtain ⟨c0, c1, c2⟩ := ten_cells (BX.out _ (grown_trans hg1 gN)).2
      obtain ⟨n0, n1, n2, n3, n4⟩ := nod_cells (n := ⟨⟨#[77, 97, 116, 77, 117, 108]⟩, ⟨#[]⟩, ⟨some ⟨wc.heap.size, 0, none⟩, 2, 2⟩, ⟨#[122]⟩, ⟨none, 0, 0⟩⟩) hbN.2
      rw [hwN] at a0 a1 a2 c0 c1 c2 n0 n1 n2 n3 n4
      clear hr hbT hbN gT gN ht hg1
      go_wp2_with fail
      rw [← hwN, ← hwT]
      clear hwN hwT a0 a1 a2 c0 c1 c2 n0 n1 n2 n3 n4
      refine E1.out.mono ?_
      intro e w2 hq
      obtain ⟨hg2, ⟨aa, an, ac⟩, ⟨ad, am, ak⟩, rfl, ia, ja⟩ := do_any hq
      simp only
      obtain ⟨p2, hp2⟩ : ∃ W, W = w2.alloc (.cells #[.int .i64 (rTy r), .slice aa an ac, .slice ad am ak] 32) := ⟨_, rfl⟩
      have bp2 := heap_alloc_new w2 (.cells #[.int .i64 (rTy r), .slice aa an ac, .slice ad am ak] 32)
      rw [← hp2] at bp2
      have gp2 : w2.grownBy p2 none := by rw [hp2]; exact grown_new _ _
      have G2 := hide (grown_trans GT.out (grown_trans hg2 gp2))
      have G02 := hide (grown_trans G0T.out (grown_trans hg2 gp2))
      have GN2 := hide (grown_trans hg2 gp2)
      have JA := hide (ja.more gp2)
      have BA := hide bp2
      have L2 := hide (LV.out p2 G2.out)
      clear hq hg2 E1 ia ja gp2 bp2
      cases r with
      | error c =>
        have hc0 : (rC (Except.error c : R (Int × List Int × List Int)) != 0) = true := by
          have hn : c ≠ 0 := nz_mmr _ _ _ _ _ _ c HR.out.symm
          simpa [rC] using hn
        rw [hp2] at L2
        have GF := hide G2.out
        rw [hp2] at GF
        go_wp2_with fail
        refine L2.out.mono ?_
        rintro e u4 ⟨rfl, hg4⟩
        go_wp2
        go_ret
        exact ⟨rfl, grown_below (grown_trans GF.out hg4)⟩
      | ok rr =>
        obtain ⟨t, l, zs⟩ := rr
        obtain ⟨n, a, k, b, hs, hxe, hye, rfl, etx, ety, rfl, hzs, hxl, hyl, px, py⟩ := mm_inv3 X3.out Y3.out XY0.out HR.out.symm
        have F1 := fine_of hs.cx
        have F2 := fine_of hs.cy
        rw [hxe] at F1
        rw [hye] at F2
        have f0 : (1 : Int) ≤ n := F1.pos _ (by simp)
        have f1 : (1 : Int) ≤ a := F1.pos _ (by simp)
        have f2 : (1 : Int) ≤ k := F1.pos _ (by simp)
        have f3 : (1 : Int) ≤ b := F2.pos _ (by simp)
        have fn : 1 ≤ n := by omega
        have fa : 1 ≤ a := by omega
        have fk : 1 ≤ k := by omega
        have fb : 1 ≤ b := by omega
        obtain ⟨P, hP⟩ : ∃ P, P = a * k := ⟨_, rfl⟩
        obtain ⟨Q, hQ⟩ : ∃ Q, Q = k * b := ⟨_, rfl⟩
        obtain ⟨O, hO⟩ : ∃ O, O = a * b := ⟨_, rfl⟩
        have sx : n * P ≤ 65536 := by have := F1.le; rw [show prod [(n : Int), (a : Int), (k : Int)] = ((n * (a * k) : Nat) : Int) from by simp [prod], ← hP] at this; omega
        have sy : n * Q ≤ 65536 := by have := F2.le; rw [show prod [(n : Int), (k : Int), (b : Int)] = ((n * (k * b) : Nat) : Int) from by simp [prod], ← hQ] at this; omega
        have sz : n * O ≤ 65536 := by have := (fine_of hs.cz).le; rw [show prod ([(n : Int)] ++ [(a : Int), (b : Int)]) = ((n * (a * b) : Nat) : Int) from by simp [prod], ← hO] at this; omega
        have pP : 1 ≤ P := by rw [hP]; exact Nat.mul_pos fa fk
        have pQ : 1 ≤ Q := by rw [hQ]; exact Nat.mul_pos fk fb
        have pO : 1 ≤ O := by rw [hO]; exact Nat.mul_pos fa fb
        have hzl : zs.length = n * O := by rw [hzs, mat_length, hO]
        rw [← hP] at hxl
        rw [← hQ] at hyl
        obtain ⟨NP, hNP⟩ : ∃ z, z = n * P := ⟨_, rfl⟩
        obtain ⟨NQ, hNQ⟩ : ∃ z, z = n * Q := ⟨_, rfl⟩
        obtain ⟨NO, hNO⟩ : ∃ z, z = n * O := ⟨_, rfl⟩
        have lP : P ≤ NP := by rw [hNP]; exact Nat.le_mul_of_pos_left _ fn
        have lQ : Q ≤ NQ := by rw [hNQ]; exact Nat.le_mul_of_pos_left _ fn
        have lO : O ≤ NO := by rw [hNO]; exact Nat.le_mul_of_pos_left _ fn
        have n5 : n ≤ NP := by rw [hNP]; exact Nat.le_mul_of_pos_right _ pP
        obtain ⟨Rw, hR0, hR1, hR2⟩ : ∃ Rw : Int, 0 ≤ Rw ∧ Rw ≤ 9223372036854775807 ∧ ((row < 0 ∧ wrap64 (row + 1) = row + 1 ∧ wrap64 (-(row + 1)) = Rw) ∨ (¬ row < 0 ∧ row = Rw)) := by
          by_cases h : row < 0
          · exact ⟨-(row + 1), by omega, by omega, .inl ⟨h, by unfold wrap64; omega, by unfold wrap64; omega⟩⟩
          · exact ⟨row, by omega, by omega, .inr ⟨h, rfl⟩⟩
        obtain ⟨q, hq⟩ : ∃ q : Nat, (q : Int) = Rw % (n : Int) := ⟨(Rw % (n : Int)).toNat, by have := Int.emod_nonneg Rw (show (n : Int) ≠ 0 by omega); omega⟩
        have hqn : q < n := by have := Int.emod_lt_of_pos Rw (show (0 : Int) < n by omega); omega
        have rm1 : Rw % (n : Int) = (q : Int) := hq.symm
        have rm2 : Rw.tmod (n : Int) = (q : Int) := by rw [Int.tmod_eq_emod_of_nonneg hR0]; exact hq.symm
        have qle : ∀ z : Nat, q * z + z ≤ n * z := fun z => by
          rw [show q * z + z = (q + 1) * z from by rw [Nat.add_mul]; omega]
          exact Nat.mul_le_mul_right _ hqn
        obtain ⟨QP, hQP⟩ : ∃ z, z = q * P := ⟨_, rfl⟩
        obtain ⟨QQ, hQQ⟩ : ∃ z, z = q * Q := ⟨_, rfl⟩
        obtain ⟨QO, hQO⟩ : ∃ z, z = q * O := ⟨_, rfl⟩
        have mP : QP + P ≤ NP := by rw [hQP, hNP]; exact qle P
        have mQ : QQ + Q ≤ NQ := by rw [hQQ, hNQ]; exact qle Q
        have mO : QO + O ≤ NO := by rw [hQO, hNO]; exact qle O
        rw [← hNP] at hxl sx
        rw [← hNQ] at hyl sy
        rw [← hNO] at hzl sz
        obtain ⟨ub, uo, rfl, -⟩ := HXS.out.get (k := 0) (by omega)
        obtain ⟨vb, vo, rfl, -⟩ := HYS.out.get (k := 0) (by omega)
        obtain ⟨zb, zo, rfl, -⟩ := JA.out.get (k := 0) (by show 0 < zs.length; omega)
        obtain ⟨_, _, e1, u1, -⟩ := HXS.out.sl
        obtain ⟨_, _, e2, u2, -⟩ := HYS.out.sl
        obtain ⟨_, _, e3, u3, -⟩ := JA.out.sl
        simp only [Sl.v, rZ, Value.slice.injEq] at e1 e2 e3 u3
        obtain ⟨-, e1, e1'⟩ := e1
        obtain ⟨-, e2, e2'⟩ := e2
        obtain ⟨-, e3, e3'⟩ := e3
        rw [hxl] at e1 u1
        rw [hyl] at e2 u2
        rw [hzl] at e3 u3
        rw [← e1'] at u1
        rw [← e2'] at u2
        rw [← e3'] at u3
        replace e1 := e1.symm
        replace e2 := e2.symm
        replace e3 := e3.symm
        subst e1 e2 e3
        obtain ⟨C1, hC1⟩ : ∃ C, uc = QP + C := ⟨uc - QP, by omega⟩
        obtain ⟨C3, hC3⟩ : ∃ C, vc = QQ + C := ⟨vc - QQ, by omega⟩
        obtain ⟨C5, hC5⟩ : ∃ C, ak = QO + C := ⟨ak - QO, by omega⟩
        have k1 : P ≤ C1 := by omega
        have k3 : Q ≤ C3 := by omega
        have k5 : O ≤ C5 := by omega
        have IPx := hide (ints_part (show IsInts w (.slice (some ⟨ub, uo, none⟩) NP uc) xs from HXS.out) QP P C1 (by rw [hxl]; exact mP) (by omega) k1)
        have IPy := hide (ints_part (show IsInts w (.slice (some ⟨vb, vo, none⟩) NQ vc) ys from HYS.out) QQ Q C3 (by rw [hyl]; exact mQ) (by omega) k3)
        have IPz := hide (ints_part (show IsInts p2 (.slice (some ⟨zb, zo, none⟩) NO ak) zs from JA.out) QO O C5 (by rw [hzl]; exact mO) (by omega) k5)
        have IDx := hide (ints_part (show IsInts w (.slice (some ⟨xb, xo, none⟩) 3 (1 + Cx)) x from HX.out) 1 2 Cx (by rw [X3.out]; omega) (by omega) C2x)
        have IDy := hide (ints_part (show IsInts w (.slice (some ⟨yb, yo, none⟩) 3 (1 + Cy)) y from HY.out) 1 2 Cy (by rw [Y3.out]; omega) (by omega) C2y)
        rw [show (x.drop 1).take 2 = [(a : Int), (k : Int)] from by rw [hxe]; rfl] at IDx
        rw [show (y.drop 1).take 2 = [(k : Int), (b : Int)] from by rw [hye]; rfl] at IDy
        have RA := hide (batch_answer (n := n) (a := a) (k := k) (b := b) (t := q) (xs := xs) (ys := ys) (by have h := hs; rw [hxe, hye] at h; exact h) (by rw [← hxe]; exact px) (by rw [← hye]; exact py) (by rw [hxl, hNP, hP]) (by rw [hyl, hNQ, hQ]) hqn)
        rw [← hP, ← hQ, ← hO, ← hQP, ← hQQ, ← hQO, show matL xs (ytL [(n : Int), (k : Int), (b : Int)] ys) n a k b = zs from by rw [hzs, hye]] at RA
        obtain ⟨ZR, hZR⟩ : ∃ ZR, ZR = (zs.drop QO).take O := ⟨_, rfl⟩
        rw [← hZR] at RA IPz
        subst etx ety
        subst hC1 hC3 hC5
        have DO2 : Hid (∀ (wx : World) (Bt : Nat), p2.grownBy wx none → wx.heap[Bt]? = some (.cells #[.int .i64 1, .slice (some ⟨xb, xo + 1, none⟩) 2 Cx, .slice (some ⟨ub, uo + QP, none⟩) P C1, .int .i64 1, .slice (some ⟨yb, yo + 1, none⟩) 2 Cy, .slice (some ⟨vb, vo + QQ, none⟩) Q C3] 32 (0, 0)) → Calls Tryz.prog 16 #[.agg #[.string ⟨#[77, 97, 116, 77, 117, 108]⟩, .string ⟨#[]⟩, .slice (some ⟨wc.heap.size, 0, none⟩) 2 2, .string ⟨#[122]⟩, .slice none 0 0], .slice (some ⟨Bt, 0, none⟩) 2 2] wx fun e w' => ∃ d t : Sl, e = .returned (.tuple #[.agg #[.int .i64 1, .slice d.a d.n d.c, .slice t.a t.n t.c], .int .i64 0]) ∧ Owns w' wx.heap.size d.v [(a : Int), (b : Int)] ∧ OwnsE w' wx.heap.size t.v ZR ∧ wx.grownBy w' none) := fun wx Bt hx hbt => by
          have hGx := grown_trans G2.out hx
          have key := matmul_do ⟨#[122]⟩ ⟨some ⟨wc.heap.size, 0, none⟩, 2, 2⟩ ⟨#[120]⟩ ⟨#[121]⟩ (by kernel_rfl) (by decide) ⟨some ⟨Bt, 0, none⟩, 2, 2⟩ ⟨1, ⟨some ⟨xb, xo + 1, none⟩, 2, Cx⟩, ⟨some ⟨ub, uo + QP, none⟩, P, C1⟩⟩ ⟨1, ⟨some ⟨yb, yo + 1, none⟩, 2, Cy⟩, ⟨some ⟨vb, vo + QQ, none⟩, Q, C3⟩⟩ [(a : Int), (k : Int)] [(k : Int), (b : Int)] ((xs.drop QP).take P) ((ys.drop QQ).take Q) wx ⟨[], a, k, k, b, by simp, rfl, rfl⟩ (HL.out.more hGx) (xy_strs (BN.out wx (grown_trans GN2.out hx)).1) (two_tens _ _ hbt (IDx.out.more hGx) (IPx.out.more hGx) (IDy.out.more hGx) (IPy.out.more hGx))
          rw [show mmR (Ten.ty ⟨1, ⟨some ⟨xb, xo + 1, none⟩, 2, Cx⟩, ⟨some ⟨ub, uo + QP, none⟩, P, C1⟩⟩) (Ten.ty ⟨1, ⟨some ⟨yb, yo + 1, none⟩, 2, Cy⟩, ⟨some ⟨vb, vo + QQ, none⟩, Q, C3⟩⟩) [(a : Int), (k : Int)] [(k : Int), (b : Int)] ((xs.drop QP).take P) ((ys.drop QQ).take Q) = .ok (1, [(a : Int), (b : Int)], ZR) from RA.out] at key
          refine key.mono fun e w' hq => ?_
          obtain ⟨hg, ⟨ty, d, t⟩, h0, he, h1, h2⟩ := hq
          simp only at h0
          subst h0
          exact ⟨d, t, he, h1, h2, hg⟩
        have KW : Hid (∀ m z v : Nat, v = m * z → v ≤ 1000000 → IntKind.i64.wrap ((m : Int) * (z : Int)) = (v : Int)) := fun m z v hv h5 => by
          rw [wrap_i64_eq, ← Int.natCast_mul, ← hv]
          exact wrap64_id (Int.natCast_nonneg _) (Int.ofNat_le.2 h5)
        have KA : Hid (∀ m z : Nat, m + z ≤ 1000000 → IntKind.i64.wrap ((m : Int) + (z : Int)) = (m : Int) + (z : Int)) := fun m z h5 => by
          rw [wrap_i64_eq, ← Int.natCast_add]
          exact wrap64_id (Int.natCast_nonneg _) (Int.ofNat_le.2 h5)
        have wP := hide (KW.out a k P hP (by omega))
        have wQ := hide (KW.out k b Q hQ (by omega))
        have wO := hide (KW.out a b O hO (by omega))
        have wNP := hide (KW.out n P NP hNP (by omega))
        have wNQ := hide (KW.out n Q NQ hNQ (by omega))
        have wNO := hide (KW.out n O NO hNO (by omega))
        have wQP := hide (KW.out q P QP hQP (by omega))
        have wQQ := hide (KW.out q Q QQ hQQ (by omega))
        have wQO := hide (KW.out q O QO hQO (by omega))
        have aP := hide (KA.out QP P (by omega))
        have aQ := hide (KA.out QQ Q (by omega))
        have aO := hide (KA.out QO O (by omega))
        have SLf : Hid (∀ m z C : Nat, z ≤ C → 1 ≤ z → (m : Int) ≤ (m : Int) + (z : Int) ∧ (0 : Int) ≤ (m : Int) + (z : Int) ∧ ((m : Int) + (z : Int)).toNat = m + z ∧ (z : Int) ≤ (C : Int) ∧ ¬ C = 0) := fun m z C h1 h2 => ⟨by omega, by omega, by omega, by omega, by omega⟩
        have SP := hide (SLf.out QP P C1 k1 pP)
        have SQ := hide (SLf.out QQ Q C3 k3 pQ)
        have SO := hide (SLf.out QO O C5 k5 pO)
        have cx0 : ¬ Cx = 0 := by omega
        have cy0 : ¬ Cy = 0 := by omega
        have cx2 : (2 : Int) ≤ (Cx : Int) := by omega
        have cy2 : (2 : Int) ≤ (Cy : Int) := by omega
        have n1' : ¬ (n : Int) < 1 := by omega
        have n0' : ¬ (n : Int) = 0 := by omega
        have n0b : ((n : Int) == 0) = false := by simpa using n0'
        have hc0 : (rC (Except.ok (1, [(n : Int), (a : Int), (b : Int)], zs) : R (Int × List Int × List Int)) != 0) = false := rfl
        have DD : Hid (∀ wx, p2.grownBy wx none → wx.cell? ⟨xb, xo, none⟩ = some (.int .i64 n) ∧ wx.cell? ⟨xb, xo + 1, none⟩ = some (.int .i64 a) ∧ wx.cell? ⟨xb, xo + 2, none⟩ = some (.int .i64 k) ∧ wx.cell? ⟨yb, yo, none⟩ = some (.int .i64 n) ∧ wx.cell? ⟨yb, yo + 1, none⟩ = some (.int .i64 k) ∧ wx.cell? ⟨yb, yo + 2, none⟩ = some (.int .i64 b)) := fun wx hx => by
          have h := DW.out wx (grown_trans G2.out hx)
          rw [hxe, hye] at h
          exact h
        have AB9 : Hid (∀ z ∈ [(a : Int), (b : Int)], -9223372036854775808 ≤ z ∧ z ≤ 9223372036854775807) := by
          have la : a ≤ O := by rw [hO]; exact Nat.le_mul_of_pos_right _ fb
          have lb : b ≤ O := by rw [hO]; exact Nat.le_mul_of_pos_left _ fa
          intro z hz
          simp only [List.mem_cons, List.not_mem_nil, or_false] at hz
          rcases hz with rfl | rfl <;> omega
        have HRR := hide hR2
        simp only [rTy] at hp2 BA ⊢
        obtain ⟨d0, d1, d2, e0, e1, e2⟩ := DD.out p2 (grown_refl _)
        obtain ⟨x0, x1, x2⟩ := ten_cells (BX.out p2 G02.out).1
        obtain ⟨y0, y1, y2⟩ := ten_cells (BX.out p2 G02.out).2
        obtain ⟨m0, m1, m2⟩ := ten_cells BA.out
        rw [hp2] at d0 d1 d2 e0 e1 e2 x0 x1 x2 y0 y1 y2 m0 m1 m2
        have HZR := hide hZR
        clear hxe hye hzs hxl hyl hzl hs px py hq hR2 hrow hP hQ hO hNP hNQ hNO hQP hQQ hQO F1 F2 qle hZR u1 u2 u3 e1' e2' e3' hR0 hR1 mP mQ mO lP lQ lO sx sy sz n5 fn fa fk fb pP pQ pO k1 k3 k5 hqn KW KA SLf
        go_upto_if 65 with fail
        rw [← hp2]
        rw [← hp2] at d0 d1 d2 e0 e1 e2 x0 x1 x2 y0 y1 y2 m0 m1 m2
        clear hp2
        go_cut [2] from 15 (fun v wx => v = .int .i64 Rw ∧ wx = p2)
        case first =>
          rcases HRR.out with ⟨h1, h2, h3⟩ | ⟨h1, h2⟩
          · go_wp2_with fail
            go_meet
            exact ⟨rfl, rfl⟩
          · subst h2
            go_wp2_with fail
            go_meet
            exact ⟨rfl, rfl⟩
        case rest =>
        obtain ⟨rfl, hwc⟩ := hcut
        have hwc2 := hwc.symm
        subst hwc2
        go_wp2_with fail
        have kw := wP.out
        go_region
        clear kw
        go_wp2_with fail
        have kw := wQ.out
        go_region
        clear kw
        go_wp2_with fail
        have kw := wO.out
        go_region
        clear kw
        go_wp2_with fail
        have k1 := wNO.out
        have k2 := wNP.out
        have k3 := wNQ.out
        go_quiet (fail)
        clear k1 k2 k3
        go_wp2_with fail
        obtain ⟨n0, n1, n2, n3, n4⟩ := nod_cells (n := ⟨⟨#[77, 97, 116, 77, 117, 108]⟩, ⟨#[]⟩, ⟨some ⟨wc.heap.size, 0, none⟩, 2, 2⟩, ⟨#[122]⟩, ⟨none, 0, 0⟩⟩) (BN.out p2 GN2.out).2
        obtain ⟨sl1, -, sl3, sl4, sl5⟩ := SP.out
        obtain ⟨tl1, -, tl3, tl4, tl5⟩ := SQ.out
        obtain ⟨vl1, -, vl3, vl4, vl5⟩ := SO.out
        have G2w := hide G2.out
        refine lb15 (X := w.heap.size) (Y := w.heap.size + 1) (Nb := wc.heap.size + 1) (NS := wc.heap.size) (xb := xb) (xo := xo) (Cx := Cx) (ub := ub) (uo := uo) (NP := NP) (QP := QP) (C1 := C1) (P := P) (yb := yb) (yo := yo) (Cy := Cy) (vb := vb) (vo := vo) (NQ := NQ) (QQ := QQ) (C3 := C3) (Q := Q) (q := q) (a := a) (b := b) (ZR := ZR) (p2 := p2) (W := _) (gW := ⟨rfl, rfl, rfl, Nat.le_refl _, fun _ _ _ => rfl⟩) (b0 := _) (g0 := _) (hQ := ?hQ) (F0 := Fr.self _ 206 (by kernel_rfl) (by kernel_rfl)) (s2 := by kernel_rfl) (s3 := by kernel_rfl) (s4 := by kernel_rfl) (s7 := by kernel_rfl) (s10 := by kernel_rfl) (s11 := by kernel_rfl) x0 x1 x2 y0 y1 y2 n0 n1 n2 n3 n4 wQP aP wQQ aQ cx0 cy0 sl1 sl3 sl4 sl5 tl1 tl3 tl4 tl5 DO2 ?fin
        case hQ =>
          intro c a1 a2 w1 hd hq
          exact panic_same hd hq
        case fin =>
          intro b' w' hs hd hk hres
          obtain ⟨Bb, ⟨da, dn, dc⟩, ⟨ta, tn, tc⟩, h13, h14, hB, i1, i2, g3⟩ := hres
          obtain ⟨b0, b1, b2⟩ := ten_cells hB
          have m2 := cell_still m2 g3
          have x1 := cell_still x1 g3
          have y1 := cell_still y1 g3
          have d1 := cell_still d1 g3
          have e2 := cell_still e2 g3
          have SA : Hid (∀ (wx : World) (DB : Nat), w'.grownBy wx none → wx.heap[DB]? = some (.cells #[.int .i64 a, .int .i64 b] 3 (0, 0)) → Calls Tryz.prog 12 #[.agg #[.int .i64 1, .slice da dn dc, .slice ta tn tc], .agg #[.int .i64 1, .slice (some ⟨DB, 0, none⟩) 2 2, .slice (some ⟨zb, zo + QO, none⟩) O C5]] wx fun e w' => e = .returned (.bool true) ∧ wx.grownBy w' none) := fun wx DB hx hbd => sameten_eq 1 (.slice da dn dc) (.slice ta tn tc) (.slice (some ⟨DB, 0, none⟩) 2 2) (.slice (some ⟨zb, zo + QO, none⟩) O C5) [(a : Int), (b : Int)] ZR wx (i1.more hx) (i2.more hx) (blk_ints (zs := [(a : Int), (b : Int)]) hbd (by simp) (AB9.out)) (IPz.out.more (grown_trans g3 hx))
          have LI : Hid (∀ wx, w'.grownBy wx none → Calls Tryz.prog 15 #[] wx fun e w' => e = .returned (.bool true) ∧ wx.grownBy w' none) := fun wx hx => LV.out wx (grown_trans G2w.out (grown_trans g3 hx))
          have GE := hide (grown_trans G2w.out g3)
          simp only [Exit.then]
          clear i1 i2 hB DO2 n0 n1 n2 n3 n4 x0 x2 y0 y2 m0 m1 d0 d2 e0 e1 sl1 sl3 sl4 sl5 tl1 tl3 tl4 tl5
          go_wp2_with fail
          refine lb16 (X := w.heap.size) (Y := w.heap.size + 1) (Ab := w2.heap.size) (Bb := Bb) (xb := xb) (xo := xo) (Cx := Cx) (yb := yb) (yo := yo) (Cy := Cy) (zb := zb) (zo := zo) (NO := NO) (QO := QO) (C5 := C5) (O := O) (q := q) (a := a) (b := b) (da := da) (ta := ta) (dn := dn) (dc := dc) (tn := tn) (tc := tc) (wc := w') (b0 := _) (g0 := _) (hQ := ?hQ2) (F0 := Fr.self _ 206 hs hd) (s2 := (hk 2 (by decide)).trans (by kernel_rfl)) (s3 := (hk 3 (by decide)).trans (by kernel_rfl)) (s4 := (hk 4 (by decide)).trans (by kernel_rfl)) (s8 := (hk 8 (by decide)).trans (by kernel_rfl)) (s12 := (hk 12 (by decide)).trans (by kernel_rfl)) (s13 := h13) (s14 := h14) x1 y1 d1 e2 m2 b0 b1 b2 wQO aO vl1 vl3 vl4 vl5 SA LI ?fin2
          case hQ2 =>
            intro c a1 a2 w1 hd hq
            exact panic_same hd hq
          case fin2 =>
            intro b'' w'' hd2 h6 g4
            simp only [Exit.then]
            go_wp2_with fail
            refine bodyPost_ret (results_tmp rfl _ _ _) hd2 ?_
            rw [h6]
            exact ⟨rfl, grown_below (grown_trans GE.out g4)⟩

set_option maxRecDepth 100000 in
set_option maxHeartbeats 16000000 in
theorem linearBatch_walk (X : Ten) {x xs : List Int} (Y : Ten) {y ys : List Int} (row : Int) (w : World) (hl : Laid w) (hx : IsInts w X.dv.v x) (hxs : IsInts w X.tv.v xs) (hy : IsInts w Y.dv.v y) (hys : IsInts w Y.tv.v ys) (hrow : -9223372036854775808 ≤ row ∧ row ≤ 9223372036854775807) : Calls Tryz.prog 8 #[tval X, tval Y, .int .i64 row] w fun e w' => e = .returned (.bool true) ∧ Below w.heap.size w w' := by
  by_cases h3 : x.length = 3
  · by_cases h4 : y.length = 3
    · exact linearBatch_three X Y row w hl hx hxs hy hys hrow h3 h4
    · exact linearBatch_other X Y row w hl hx hxs hy hys (.inr ⟨by simp [h3], by simpa using (fun h => h4 (by omega) : ¬ (y.length : Int) = 3)⟩)
  · exact linearBatch_other X Y row w hl hx hxs hy hys (.inl (by simpa using (fun h => h3 (by omega) : ¬ (x.length : Int) = 3)))

end Go.Proofs.YtaoplfpigjkgpaaGreatDoor
