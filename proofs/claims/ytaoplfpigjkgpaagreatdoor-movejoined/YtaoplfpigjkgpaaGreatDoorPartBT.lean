/- Joined texts: LMJoinW. -/
import Derived.Test.YtaoplfpigjkgpaaGreatDoorPartBL
import Derived.Test.YtaoplfpigjkgpaaGreatDoorPartBS
import Derived.Deep.Cut
namespace Go.Proofs.YtaoplfpigjkgpaaGreatDoor

open Go.RowKit

set_option maxRecDepth 100000 in
set_option maxHeartbeats 16000000 in
theorem moveJoined_walk (X : Ten) {x xs : List Int} (axis at0 : Int) (w : World) (hl : Laid w) (hx : IsInts w X.dv.v x) (hxs : IsInts w X.tv.v xs) (ha1 : -9223372036854775808 ≤ axis) (ha2 : axis ≤ 9223372036854775807) (hb1 : -9223372036854775808 ≤ at0) (hb2 : at0 ≤ 9223372036854775807) : Calls Tryz.prog 5 #[tval X, .int .i64 axis, .int .i64 at0] w fun e w' => e = .returned (.bool true) ∧ Below w.heap.size w w' := by
  obtain ⟨i1, hj, jz0, jz1, jz2⟩ := info_parts infoAttr
  have HL := hide hl
  have HX := hide hx
  have HXS := hide hxs
  obtain ⟨_, _, ex, -⟩ := hx.sl
  clear hl hx hxs
  obtain ⟨tx, ⟨xa, xn, xc⟩, ⟨ua, un, uc⟩⟩ := X
  simp only [Sl.v, Value.slice.injEq] at ex
  obtain ⟨-, rfl, -⟩ := ex
  unfold tval
  simp only [Sl.v] at HX HXS ⊢
  obtain ⟨w0, hw0⟩ : ∃ w0, w0 = w.alloc (.cells #[.int .i64 tx, .slice xa x.length xc, .slice ua un uc] 32) := ⟨_, rfl⟩
  obtain ⟨hbx, Z0⟩ := new_alloc (.cells #[.int .i64 tx, .slice xa x.length xc, .slice ua un uc] 32) (x := w) rfl
  rw [← hw0] at hbx Z0
  have g0 : w.grownBy w0 none := by rw [hw0]; exact grown_new _ _
  have BX : Hid (∀ wx, w0.grownBy wx none → wx.heap[w.heap.size]? = some (.cells #[.int .i64 tx, .slice xa x.length xc, .slice ua un uc] 32 (0, 0))) := fun wx hx => box_kept hbx hx
  have LV : Hid (∀ wx, w.grownBy wx none → Calls Tryz.prog 10 #[] wx fun e w' => e = .returned (.bool true) ∧ wx.grownBy w' none) := fun wx hx => live10_any wx (HL.out.more hx)
  obtain ⟨wS, hwS⟩ : ∃ wS, wS = w0.alloc (.cells #[.int .i64 tx, .slice xa x.length xc, .slice ua un uc] 32) := ⟨_, rfl⟩
  obtain ⟨bS, -⟩ := new_alloc (.cells #[.int .i64 tx, .slice xa x.length xc, .slice ua un uc] 32) Z0
  rw [← hwS] at bS
  have gS : w0.grownBy wS none := by rw [hwS]; exact grown_new _ _
  have GS := hide (grown_trans g0 gS)
  have GS0 := hide gS
  have SM := hide (small10_any ⟨some ⟨w.heap.size + 1, 0, none⟩, 1, 1⟩ _ wS (one_ten ⟨tx, ⟨xa, x.length, xc⟩, ⟨ua, un, uc⟩⟩ bS (HX.out.more GS.out) (HXS.out.more GS.out)))
  simp only at SM
  obtain ⟨x0, x1, x2⟩ := ten_cells hbx
  rw [hw0] at x0 x1 x2
  have G0 := hide g0
  clear hbx bS Z0 g0 gS
  go_enter Tryz.func5, Tryz.ntmps5
  go_wp2_with fail
  rw [← hw0, ← hwS]
  clear hw0 hwS x0 x1 x2
  refine SM.out.mono ?_
  rintro e w1 ⟨bb, rfl, hg1⟩
  have G1 := hide (grown_trans GS.out hg1)
  have G01 := hide (grown_trans GS0.out hg1)
  have L1 := hide (LV.out w1 G1.out)
  obtain ⟨x0, x1, x2⟩ := ten_cells (BX.out w1 G01.out)
  clear hg1 SM
  cases bb with
  | false =>
    go_wp2_with fail
    refine L1.out.mono ?_
    rintro e w2 ⟨rfl, hg2⟩
    go_wp2
    go_ret
    exact ⟨rfl, grown_below (grown_trans G1.out hg2)⟩
  | true =>
    obtain ⟨wn, hwn⟩ : ∃ wn, wn = (w1.alloc (.cells #[.string ⟨#[120]⟩] 9)).alloc (.cells #[.string ⟨#[83, 108, 105, 99, 101]⟩, .string ⟨#[]⟩, .slice (some ⟨w1.heap.size, 0, none⟩) 1 1, .string ⟨#[121]⟩, .slice none 0 0] 25) := ⟨_, rfl⟩
    have hbn := two_boxes w1 (.cells #[.string ⟨#[120]⟩] 9) (.cells #[.string ⟨#[83, 108, 105, 99, 101]⟩, .string ⟨#[]⟩, .slice (some ⟨w1.heap.size, 0, none⟩) 1 1, .string ⟨#[121]⟩, .slice none 0 0] 25)
    rw [← hwn] at hbn
    have gn : w1.grownBy wn none := by rw [hwn]; exact grown_trans (grown_new _ _) (grown_new _ _)
    have ZN : Hid (wn.heap.size = w1.heap.size + 1 + 1) := by show _ = _; rw [hwn]; simp
    have GN := hide (grown_trans G1.out gn)
    have GN0 := hide (grown_trans G01.out gn)
    have SN := hide hbn.1
    have KN := hide hbn.2
    have ZP := hide ZN.out
    clear hbn gn
    go_wp2_with fail
    rw [← hwn]
    clear hwn x0 x1 x2
    obtain ⟨pd, hpd⟩ : ∃ pd, pd = (((wn.alloc (.cells #[.int .i64 0] 2)).alloc (.cells #[.string ⟨#[115, 116, 97, 114, 116, 115]⟩, .int .i64 7, .int .i64 0, .int .i64 0, .string ⟨#[]⟩, .int .i64 0, .slice none 0 0, .slice none 0 0, .slice (some ⟨w1.heap.size + 1 + 1, 0, none⟩) 1 1] 41)).alloc (.cells #[.int .i64 at0] 2)).alloc (.cells #[.string ⟨#[101, 110, 100, 115]⟩, .int .i64 7, .int .i64 0, .int .i64 0, .string ⟨#[]⟩, .int .i64 0, .slice none 0 0, .slice none 0 0, .slice (some ⟨w1.heap.size + 1 + 1 + 1 + 1, 0, none⟩) 1 1] 41) := ⟨_, rfl⟩
    obtain ⟨d0, z0⟩ := new_alloc (.cells #[.int .i64 0] 2) ZP.out
    obtain ⟨d1, z1⟩ := new_alloc (.cells #[.string ⟨#[115, 116, 97, 114, 116, 115]⟩, .int .i64 7, .int .i64 0, .int .i64 0, .string ⟨#[]⟩, .int .i64 0, .slice none 0 0, .slice none 0 0, .slice (some ⟨w1.heap.size + 1 + 1, 0, none⟩) 1 1] 41) z0
    obtain ⟨d2, z2⟩ := new_alloc (.cells #[.int .i64 at0] 2) z1
    obtain ⟨d3, z3⟩ := new_alloc (.cells #[.string ⟨#[101, 110, 100, 115]⟩, .int .i64 7, .int .i64 0, .int .i64 0, .string ⟨#[]⟩, .int .i64 0, .slice none 0 0, .slice none 0 0, .slice (some ⟨w1.heap.size + 1 + 1 + 1 + 1, 0, none⟩) 1 1] 41) z2
    replace d0 := up_alloc (.cells #[.string ⟨#[101, 110, 100, 115]⟩, .int .i64 7, .int .i64 0, .int .i64 0, .string ⟨#[]⟩, .int .i64 0, .slice none 0 0, .slice none 0 0, .slice (some ⟨w1.heap.size + 1 + 1 + 1 + 1, 0, none⟩) 1 1] 41) (up_alloc (.cells #[.int .i64 at0] 2) (up_alloc (.cells #[.string ⟨#[115, 116, 97, 114, 116, 115]⟩, .int .i64 7, .int .i64 0, .int .i64 0, .string ⟨#[]⟩, .int .i64 0, .slice none 0 0, .slice none 0 0, .slice (some ⟨w1.heap.size + 1 + 1, 0, none⟩) 1 1] 41) d0))
    replace d1 := up_alloc (.cells #[.string ⟨#[101, 110, 100, 115]⟩, .int .i64 7, .int .i64 0, .int .i64 0, .string ⟨#[]⟩, .int .i64 0, .slice none 0 0, .slice none 0 0, .slice (some ⟨w1.heap.size + 1 + 1 + 1 + 1, 0, none⟩) 1 1] 41) (up_alloc (.cells #[.int .i64 at0] 2) d1)
    replace d2 := up_alloc (.cells #[.string ⟨#[101, 110, 100, 115]⟩, .int .i64 7, .int .i64 0, .int .i64 0, .string ⟨#[]⟩, .int .i64 0, .slice none 0 0, .slice none 0 0, .slice (some ⟨w1.heap.size + 1 + 1 + 1 + 1, 0, none⟩) 1 1] 41) d2
    rw [← hpd] at d0 d1 d2 d3 z3
    have gpd : wn.grownBy pd none := by rw [hpd]; exact grown_trans (grown_trans (grown_trans (grown_new _ _) (grown_new _ _)) (grown_new _ _)) (grown_new _ _)
    have NL : w1.heap.size + 1 < w1.heap.size + 1 + 1 := by rw [← ZP.out]; exact (Array.getElem?_eq_some_iff.1 KN.out).1
    have WL : wn.heap.size ≤ w1.heap.size + 1 + 1 := Nat.le_of_eq ZP.out
    have HN := hide (World.grownBy.refl wn (some (w1.heap.size + 1)))
    have OW := hide (own_lit (base := w1.heap.size + 1 + 1) (size := 9) (n := 1) d1 (by omega) rfl (by omega))
    have M1 := hide (mints_any ⟨#[115, 116, 97, 114, 116, 115]⟩ ⟨(some ⟨w1.heap.size + 1 + 1, 0, none⟩), 1, 1⟩ (wn.alloc (.cells #[.int .i64 0] 2)))
    have M2 := hide (mints_any ⟨#[101, 110, 100, 115]⟩ ⟨(some ⟨w1.heap.size + 1 + 1 + 1 + 1, 0, none⟩), 1, 1⟩ (((wn.alloc (.cells #[.int .i64 0] 2)).alloc (.cells #[.string ⟨#[115, 116, 97, 114, 116, 115]⟩, .int .i64 7, .int .i64 0, .int .i64 0, .string ⟨#[]⟩, .int .i64 0, .slice none 0 0, .slice none 0 0, .slice (some ⟨w1.heap.size + 1 + 1, 0, none⟩) 1 1] 41)).alloc (.cells #[.int .i64 at0] 2)))
    simp only [World.size_alloc, ZP.out] at M1 M2
    have KD := hide (box_kept KN.out gpd)
    have E1 := hide d0
    have E2 := hide d2
    have D3 := hide d3
    have Z3 := hide z3
    have GPD := hide gpd
    clear d0 d1 d2 d3 z0 z1 z2 z3 gpd
    have zpe := ZP.out
    go_wp2_with fail
    refine M1.out.mono ?_
    rintro e wy ⟨rfl, rfl⟩
    go_wp2_with fail
    refine M2.out.mono ?_
    rintro e wy ⟨rfl, rfl⟩
    rw [← hpd]
    clear hpd M1 M2 zpe
    go_wp2_with (first | (at_builtin; refine wpList_append_lies _ rfl (.tmp 23) (.tmp 26) 23 rfl (w1.heap.size + 1 + 1) 41 i1 (.agg #[.string ⟨#[]⟩, .int .i64 0, .int .i64 0, .int .i64 0, .string ⟨#[]⟩, .int .i64 0, .slice none 0 0, .slice none 0 0, .slice none 0 0]) 9 136 Tryz.underlying23 hj jz0 jz1 jz2 rfl (by decide) (.slice (some ⟨w1.heap.size + 1 + 1 + 1, 0, none⟩) 1 1) 1 _ rfl (by exact OW.out) ⟨w1.heap.size + 1 + 1 + 1 + 1 + 1, 0, none⟩ 1 1 (acells (inA ⟨#[101, 110, 100, 115]⟩ ⟨(some ⟨w1.heap.size + 1 + 1 + 1 + 1, 0, none⟩), 1, 1⟩)) rfl rfl (by exact World.news_of_block D3.out) (acell_one _) (by omega) (by simp only [maxLen]; omega) (by omega) (by rw [Z3.out]; omega) _ rfl ?_; intro g1 cap1 w8 hown8 hgrow8 hat8 hlt8; have K8 := hide ((hgrow8.block (w1.heap.size + 1) (by rw [Z3.out]; omega) (by simp only [Value.ownBlock, ne_eq, Option.some.injEq]; omega)).trans KD.out); have f4 := (nod_frozen K8.out).2.2.2.2; have c4 := (five_cells K8.out).2.2.2.2) | fail)
    obtain ⟨q, hq⟩ : ∃ q, q = w8.setCell ⟨w1.heap.size + 1, 4, none⟩ (.slice (some ⟨g1, 0, none⟩) 2 cap1) := ⟨_, rfl⟩
    have KQ := hide (heap_setCell_same w8 (w1.heap.size + 1) 4 _ _ (.slice (some ⟨g1, 0, none⟩) 2 cap1) K8.out)
    rw [← hq] at KQ ⊢
    have gq : w8.grownBy q (some (w1.heap.size + 1)) := by rw [hq]; exact set_grown _ _ _ _
    have hg1 : w1.heap.size + 1 + 1 ≤ g1 := (World.ownsRow.lt hown8 g1 rfl).1
    have hg1n : g1 ≠ w1.heap.size + 1 + 1 ∧ g1 ≠ w1.heap.size + 1 + 1 + 1 + 1 := by
      rcases hat8 with e | e
      · simp only [Value.ownBlock, Option.some.injEq] at e; omega
      · have := Z3.out; omega
    have OQ := hide (hown8.kept gq (.inr (by simp only [Value.ownBlock, ne_eq, Option.some.injEq]; omega)))
    have HQ1 := hide ((gq.block _ (by have := hgrow8.size; rw [Z3.out] at this; omega) (by simp only [ne_eq, Option.some.injEq]; omega)).trans ((hgrow8.block (w1.heap.size + 1 + 1) (by rw [Z3.out]; omega) (by simp [Value.ownBlock])).trans E1.out))
    have HQ2 := hide ((gq.block _ (by have := hgrow8.size; rw [Z3.out] at this; omega) (by simp only [ne_eq, Option.some.injEq]; omega)).trans ((hgrow8.block (w1.heap.size + 1 + 1 + 1 + 1) (by rw [Z3.out]; omega) (by simp [Value.ownBlock])).trans E2.out))
    have hgr8 : pd.grownBy w8 (some (w1.heap.size + 1 + 1 + 1)) := hgrow8
    have GQ : Hid (wn.grownBy q (some (w1.heap.size + 1))) := grown_same (grown_past (grown_after HN.out GPD.out) hgr8 (by omega)) gq
    have QL : Hid (w1.heap.size + 1 + 1 + 1 + 1 < q.heap.size ∧ w1.heap.size + 1 < q.heap.size ∧ g1 < q.heap.size) := by
      have h1 := hgrow8.size
      have h2 := gq.size
      rw [Z3.out] at h1
      exact ⟨by omega, by omega, by omega⟩
    have OWN : Hid (∀ v2, q.grownBy v2 none → v2.ownsRow (w1.heap.size + 1 + 1) 41 9 (.slice (some ⟨g1, 0, none⟩) 2 cap1) 2 (acells (inA ⟨#[115, 116, 97, 114, 116, 115]⟩ ⟨(some ⟨w1.heap.size + 1 + 1, 0, none⟩), 1, 1⟩) ++ acells (inA ⟨#[101, 110, 100, 115]⟩ ⟨(some ⟨w1.heap.size + 1 + 1 + 1 + 1, 0, none⟩), 1, 1⟩))) := fun v2 h => OQ.out.kept h (by simp [Value.ownBlock])
    have CEL : Hid (∀ v2, q.grownBy v2 none → v2.cell? ⟨w1.heap.size + 1, 4, none⟩ = some (.slice (some ⟨g1, 0, none⟩) 2 cap1)) := fun v2 h => (five_cells (box_kept KQ.out h)).2.2.2.2
    have MI3 : Hid (∀ v, Calls Tryz.prog 13 #[.string ⟨#[97, 120, 101, 115]⟩, .slice (some ⟨q.heap.size, 0, none⟩) 1 1] v fun e w' => e = .returned (.slice (some ⟨v.heap.size, 0, none⟩) 1 1) ∧ w' = v.alloc (.cells #[.string ⟨#[97, 120, 101, 115]⟩, .int .i64 7, .int .i64 0, .int .i64 0, .string ⟨#[]⟩, .int .i64 0, .slice none 0 0, .slice none 0 0, .slice (some ⟨q.heap.size, 0, none⟩) 1 1] 41)) := fun v => mints_any ⟨#[97, 120, 101, 115]⟩ ⟨some ⟨q.heap.size, 0, none⟩, 1, 1⟩ v
    have FIN : Hid (∀ (v2 w9 : World) (g2 cap2 : Nat), q.grownBy v2 none → v2.heap[q.heap.size]? = some (.cells #[.int .i64 axis] 2) → q.heap.size < v2.heap.size → w9.ownsRow (w1.heap.size + 1 + 1) 41 9 (.slice (some ⟨g2, 0, none⟩) 3 cap2) 3 ((acells (inA ⟨#[115, 116, 97, 114, 116, 115]⟩ ⟨(some ⟨w1.heap.size + 1 + 1, 0, none⟩), 1, 1⟩) ++ acells (inA ⟨#[101, 110, 100, 115]⟩ ⟨(some ⟨w1.heap.size + 1 + 1 + 1 + 1, 0, none⟩), 1, 1⟩)) ++ acells (inA ⟨#[97, 120, 101, 115]⟩ ⟨some ⟨q.heap.size, 0, none⟩, 1, 1⟩)) → v2.grownBy w9 (some g1) → w9.frozen? ⟨w1.heap.size + 1, 4, none⟩ = false ∧ w9.cell? ⟨w1.heap.size + 1, 4, none⟩ = some (.slice (some ⟨g1, 0, none⟩) 2 cap1) ∧ (fun wx => wn.grownBy wx (some (w1.heap.size + 1)) ∧ ∃ (ga : Option Addr) (gc : Nat) (s1 s2 s3 : Sl), wx.heap[w1.heap.size + 1]? = some (.cells #[.string ⟨#[83, 108, 105, 99, 101]⟩, .string ⟨#[]⟩, .slice (some ⟨w1.heap.size, 0, none⟩) 1 1, .string ⟨#[121]⟩, .slice ga 3 gc] 25 (0, 0)) ∧ IsAttrs wx (.slice ga 3 gc) [inA ⟨#[115, 116, 97, 114, 116, 115]⟩ s1, inA ⟨#[101, 110, 100, 115]⟩ s2, inA ⟨#[97, 120, 101, 115]⟩ s3] ∧ IsInts wx s1.v [0] ∧ IsInts wx s2.v [at0] ∧ IsInts wx s3.v [axis]) (w9.setCell ⟨w1.heap.size + 1, 4, none⟩ (.slice (some ⟨g2, 0, none⟩) 3 cap2))) := fun v2 w9 g2 cap2 h1 h2 h2s h3 h4 => by
      have q1 := QL.out
      have hs2 := h1.size
      have hs9 := h4.size
      have K9 := (h4.block (w1.heap.size + 1) (by omega) (by simp only [ne_eq, Option.some.injEq]; omega)).trans (box_kept KQ.out h1)
      have kz := heap_setCell_same w9 (w1.heap.size + 1) 4 _ _ (.slice (some ⟨g2, 0, none⟩) 3 cap2) K9
      have gz := set_grown w9 (w1.heap.size + 1) 4 (.slice (some ⟨g2, 0, none⟩) 3 cap2)
      have up : ∀ (i : Nat) (o : Obj), i ≠ w1.heap.size + 1 → i ≠ g1 → i < v2.heap.size → v2.heap[i]? = some o → (w9.setCell ⟨w1.heap.size + 1, 4, none⟩ (.slice (some ⟨g2, 0, none⟩) 3 cap2)).heap[i]? = some o := fun i o e1 e2 e3 e4 => (gz.block i (by omega) (by simp only [ne_eq, Option.some.injEq]; exact e1)).trans ((h4.block i e3 (by simp only [ne_eq, Option.some.injEq]; exact e2)).trans e4)
      refine ⟨(nod_frozen K9).2.2.2.2, (five_cells K9).2.2.2.2, grown_same (grown_past (grown_after GQ.out h1) h4 (by omega)) gz, _, _, ⟨(some ⟨w1.heap.size + 1 + 1, 0, none⟩), 1, 1⟩, ⟨(some ⟨w1.heap.size + 1 + 1 + 1 + 1, 0, none⟩), 1, 1⟩, ⟨some ⟨q.heap.size, 0, none⟩, 1, 1⟩, kz, own_attrs (h3.kept gz (.inr (by have := (World.ownsRow.lt h3 g2 rfl).1; simp only [Value.ownBlock, ne_eq, Option.some.injEq]; omega))) (by simp), blk_ints (zs := [0]) (up _ _ (by omega) (by omega) (by omega) (box_kept HQ1.out h1)) (by simp) (by simp), blk_ints (zs := [at0]) (up _ _ (by omega) (by omega) (by omega) (box_kept HQ2.out h1)) (by simp) (by simp; omega), blk_ints (zs := [axis]) (up _ _ (by omega) (by omega) h2s h2) (by simp) (by simp; omega)⟩
    have WG : Hid (wn.heap.size ≤ g1) := by show _ ≤ _; omega
    clear hgr8 hq hown8 hgrow8 hat8 hlt8 f4 c4 gq hg1n NL WL
    go_cut [] from 29 to 35 (fun wx => wn.grownBy wx (some (w1.heap.size + 1)) ∧ ∃ (ga : Option Addr) (gc : Nat) (s1 s2 s3 : Sl), wx.heap[w1.heap.size + 1]? = some (.cells #[.string ⟨#[83, 108, 105, 99, 101]⟩, .string ⟨#[]⟩, .slice (some ⟨w1.heap.size, 0, none⟩) 1 1, .string ⟨#[121]⟩, .slice ga 3 gc] 25 (0, 0)) ∧ IsAttrs wx (.slice ga 3 gc) [inA ⟨#[115, 116, 97, 114, 116, 115]⟩ s1, inA ⟨#[101, 110, 100, 115]⟩ s2, inA ⟨#[97, 120, 101, 115]⟩ s3] ∧ IsInts wx s1.v [0] ∧ IsInts wx s2.v [at0] ∧ IsInts wx s3.v [axis])
    case first =>
      refine wp_region_held_drew (S := fun w' => wn.grownBy w' (some (w1.heap.size + 1))) (by kernel_rfl) (by first | assumption | exact GQ.out | exact grown_after GQ.out (grown_drew (grown_refl _))) (fun hHeld => ?_)
      refine wpAnyH_take (i := 0) (v := ?_) rfl (by kernel_rfl) (by kernel_rfl) (by kernel_rfl) (fun _ _ _ h => h) (Or.inl ⟨by kernel_rfl, ?_⟩) (by assumption) ?_
      rotate_left 1
      · (intro wS hSw; go_simp; (try with_reducible rfl))
      try simp only [Act.put]
      refine wpAnyH_take (i := 2) (v := ?_) rfl (by kernel_rfl) (by kernel_rfl) (by kernel_rfl) (fun _ _ _ h => h) (Or.inl ⟨by kernel_rfl, ?_⟩) (by assumption) ?_
      rotate_left 1
      · (intro wS hSw; go_simp; (try with_reducible rfl))
      try simp only [Act.put]
      refine wpAnyH_ready (rs := [1, 3]) (by kernel_rfl) (by simp) ?_
      refine AllReadyH.cons rfl (fun K hK => ?_) ?_
      · skip
        have c4 := CEL.out q (grown_refl _)
        go_simp
        refine hK.out _ _ (by first | assumption | exact GQ.out | exact grown_after GQ.out (grown_drew (grown_refl _))) (fun hHeld => ?_)
        clear hK K
        try simp only [Act.put]
        refine wpAnyH_ready (rs := [3]) (by kernel_rfl) (by simp) ?_
        refine AllReadyH.cons rfl (fun K hK => ?_) ?_
        · skip
          go_simp
          refine hK.out _ _ (by first | assumption | exact grown_after GQ.out (grown_new _ _) | exact grown_after GQ.out (grown_drew (grown_new _ _)) | exact grown_after GQ.out (grown_trans (grown_drew (grown_refl _)) (grown_new _ _))) (fun hHeld => ?_)
          clear hK K
          try simp only [Act.put]
          have b1 : ((q.alloc (.cells #[.int .i64 axis] 2)).drew).heap[q.heap.size]? = some (.cells #[.int .i64 axis] 2) := heap_alloc_new q (.cells #[.int .i64 axis] 2)
          have gv1 : q.grownBy ((q.alloc (.cells #[.int .i64 axis] 2)).drew) none := grown_drew (grown_new _ _)
          have zv1 : ((q.alloc (.cells #[.int .i64 axis] 2)).drew).heap.size = q.heap.size + 1 := by simp
          generalize hv1 : (q.alloc (.cells #[.int .i64 axis] 2)).drew = v1 at b1 gv1 zv1 hHeld ⊢
          clear hv1
          refine wpAnyH_ready (rs := [4]) (by kernel_rfl) (by simp) ?_
          refine AllReadyH.cons rfl (fun K hK => ?_) ?_
          · skip
            go_simp
            refine (MI3.out v1).mono ?_
            rintro e v2 ⟨rfl, hv2⟩
            have b2 := heap_alloc_new v1 (.cells #[.string ⟨#[97, 120, 101, 115]⟩, .int .i64 7, .int .i64 0, .int .i64 0, .string ⟨#[]⟩, .int .i64 0, .slice none 0 0, .slice none 0 0, .slice (some ⟨q.heap.size, 0, none⟩) 1 1] 41)
            rw [← hv2] at b2
            have gv12 : v1.grownBy v2 none := by rw [hv2]; exact grown_new _ _
            have zv2 : v2.heap.size = v1.heap.size + 1 := by rw [hv2]; simp
            clear hv2
            have b1 := box_kept b1 gv12
            have gv2 := grown_trans gv1 gv12
            refine hK.out _ _ (grown_after GQ.out gv2) (fun hHeld => ?_)
            clear hK K
            try simp only [Act.put]
            refine wpAnyH_ready (rs := [5]) (by kernel_rfl) (by simp) ?_
            refine AllReadyH.cons rfl (fun K hK => ?_) AllReadyH.nil
            refine step_append_lies _ rfl (.tmp 30) (.tmp 33) 23 rfl (w1.heap.size + 1 + 1) 41 i1 (.agg #[.string ⟨#[]⟩, .int .i64 0, .int .i64 0, .int .i64 0, .string ⟨#[]⟩, .int .i64 0, .slice none 0 0, .slice none 0 0, .slice none 0 0]) 9 136 Tryz.underlying23 hj jz0 jz1 jz2 rfl (by decide) (.slice (some ⟨g1, 0, none⟩) 2 cap1) 2 _ rfl (OWN.out v2 gv2) ⟨_, 0, none⟩ 1 1 (acells (inA ⟨#[97, 120, 101, 115]⟩ ⟨some ⟨q.heap.size, 0, none⟩, 1, 1⟩)) rfl rfl (by first | exact World.news_of_block b2 | (rw [← zv1]; exact World.news_of_block b2)) (acell_one _) (by omega) (by simp only [maxLen]; omega) (by omega) (by have := QL.out; omega) _ rfl ?_
            intro g2 cap2 w9 hown9 hgrow9 hat9 hlt9
            have hgr9 : v2.grownBy w9 (some g1) := hgrow9
            obtain ⟨f4, c4, hrel⟩ := FIN.out v2 w9 g2 cap2 gv2 b1 (by omega) hown9 hgr9
            refine hK.out _ _ (grown_past (grown_after GQ.out gv2) hgr9 WG.out) (fun hHeld => ?_)
            clear hK K
            try simp only [Act.put]
            refine wpAnyH_take (i := 6) (v := ?_) rfl (by kernel_rfl) (by kernel_rfl) (by kernel_rfl) (fun _ _ _ h => h) (Or.inl ⟨by kernel_rfl, ?_⟩) (by assumption) ?_
            rotate_left 1
            · (intro wS hSw; go_simp; (try with_reducible rfl))
            try simp only [Act.put]
            refine wpAnyH_ready (rs := [7]) (by kernel_rfl) (by simp) ?_
            refine AllReadyH.cons rfl (fun K hK => ?_) AllReadyH.nil
            go_simp
            refine hK.out _ _ hrel.1 (fun hHeld => ?_)
            clear hK K
            try simp only [Act.put]
            refine wpAnyH_done (by kernel_rfl) ?_ _
            go_simp
            go_wp2_with fail
            go_meet
            exact hrel
          exact AllReadyH.nil
        exact AllReadyH.nil
      refine AllReadyH.cons rfl (fun K hK => ?_) ?_
      · skip
        go_simp
        refine hK.out _ _ (by first | assumption | exact grown_after GQ.out (grown_new _ _) | exact grown_after GQ.out (grown_drew (grown_new _ _)) | exact grown_after GQ.out (grown_trans (grown_drew (grown_refl _)) (grown_new _ _))) (fun hHeld => ?_)
        clear hK K
        try simp only [Act.put]
        have b1 : ((q.alloc (.cells #[.int .i64 axis] 2)).drew).heap[q.heap.size]? = some (.cells #[.int .i64 axis] 2) := heap_alloc_new q (.cells #[.int .i64 axis] 2)
        have gv1 : q.grownBy ((q.alloc (.cells #[.int .i64 axis] 2)).drew) none := grown_drew (grown_new _ _)
        have zv1 : ((q.alloc (.cells #[.int .i64 axis] 2)).drew).heap.size = q.heap.size + 1 := by simp
        generalize hv1 : (q.alloc (.cells #[.int .i64 axis] 2)).drew = v1 at b1 gv1 zv1 hHeld ⊢
        clear hv1
        refine wpAnyH_ready (rs := [1, 4]) (by kernel_rfl) (by simp) ?_
        refine AllReadyH.cons rfl (fun K hK => ?_) ?_
        · skip
          have c4 := CEL.out v1 gv1
          go_simp
          refine hK.out _ _ (by first | assumption | exact grown_after GQ.out gv1) (fun hHeld => ?_)
          clear hK K
          try simp only [Act.put]
          refine wpAnyH_ready (rs := [4]) (by kernel_rfl) (by simp) ?_
          refine AllReadyH.cons rfl (fun K hK => ?_) ?_
          · skip
            go_simp
            refine (MI3.out v1).mono ?_
            rintro e v2 ⟨rfl, hv2⟩
            have b2 := heap_alloc_new v1 (.cells #[.string ⟨#[97, 120, 101, 115]⟩, .int .i64 7, .int .i64 0, .int .i64 0, .string ⟨#[]⟩, .int .i64 0, .slice none 0 0, .slice none 0 0, .slice (some ⟨q.heap.size, 0, none⟩) 1 1] 41)
            rw [← hv2] at b2
            have gv12 : v1.grownBy v2 none := by rw [hv2]; exact grown_new _ _
            have zv2 : v2.heap.size = v1.heap.size + 1 := by rw [hv2]; simp
            clear hv2
            have b1 := box_kept b1 gv12
            have gv2 := grown_trans gv1 gv12
            refine hK.out _ _ (grown_after GQ.out gv2) (fun hHeld => ?_)
            clear hK K
            try simp only [Act.put]
            refine wpAnyH_ready (rs := [5]) (by kernel_rfl) (by simp) ?_
            refine AllReadyH.cons rfl (fun K hK => ?_) AllReadyH.nil
            refine step_append_lies _ rfl (.tmp 30) (.tmp 33) 23 rfl (w1.heap.size + 1 + 1) 41 i1 (.agg #[.string ⟨#[]⟩, .int .i64 0, .int .i64 0, .int .i64 0, .string ⟨#[]⟩, .int .i64 0, .slice none 0 0, .slice none 0 0, .slice none 0 0]) 9 136 Tryz.underlying23 hj jz0 jz1 jz2 rfl (by decide) (.slice (some ⟨g1, 0, none⟩) 2 cap1) 2 _ rfl (OWN.out v2 gv2) ⟨_, 0, none⟩ 1 1 (acells (inA ⟨#[97, 120, 101, 115]⟩ ⟨some ⟨q.heap.size, 0, none⟩, 1, 1⟩)) rfl rfl (by first | exact World.news_of_block b2 | (rw [← zv1]; exact World.news_of_block b2)) (acell_one _) (by omega) (by simp only [maxLen]; omega) (by omega) (by have := QL.out; omega) _ rfl ?_
            intro g2 cap2 w9 hown9 hgrow9 hat9 hlt9
            have hgr9 : v2.grownBy w9 (some g1) := hgrow9
            obtain ⟨f4, c4, hrel⟩ := FIN.out v2 w9 g2 cap2 gv2 b1 (by omega) hown9 hgr9
            refine hK.out _ _ (grown_past (grown_after GQ.out gv2) hgr9 WG.out) (fun hHeld => ?_)
            clear hK K
            try simp only [Act.put]
            refine wpAnyH_take (i := 6) (v := ?_) rfl (by kernel_rfl) (by kernel_rfl) (by kernel_rfl) (fun _ _ _ h => h) (Or.inl ⟨by kernel_rfl, ?_⟩) (by assumption) ?_
            rotate_left 1
            · (intro wS hSw; go_simp; (try with_reducible rfl))
            try simp only [Act.put]
            refine wpAnyH_ready (rs := [7]) (by kernel_rfl) (by simp) ?_
            refine AllReadyH.cons rfl (fun K hK => ?_) AllReadyH.nil
            go_simp
            refine hK.out _ _ hrel.1 (fun hHeld => ?_)
            clear hK K
            try simp only [Act.put]
            refine wpAnyH_done (by kernel_rfl) ?_ _
            go_simp
            go_wp2_with fail
            go_meet
            exact hrel
          exact AllReadyH.nil
        refine AllReadyH.cons rfl (fun K hK => ?_) ?_
        · skip
          go_simp
          refine (MI3.out v1).mono ?_
          rintro e v2 ⟨rfl, hv2⟩
          have b2 := heap_alloc_new v1 (.cells #[.string ⟨#[97, 120, 101, 115]⟩, .int .i64 7, .int .i64 0, .int .i64 0, .string ⟨#[]⟩, .int .i64 0, .slice none 0 0, .slice none 0 0, .slice (some ⟨q.heap.size, 0, none⟩) 1 1] 41)
          rw [← hv2] at b2
          have gv12 : v1.grownBy v2 none := by rw [hv2]; exact grown_new _ _
          have zv2 : v2.heap.size = v1.heap.size + 1 := by rw [hv2]; simp
          clear hv2
          have b1 := box_kept b1 gv12
          have gv2 := grown_trans gv1 gv12
          refine hK.out _ _ (grown_after GQ.out gv2) (fun hHeld => ?_)
          clear hK K
          try simp only [Act.put]
          refine wpAnyH_ready (rs := [1]) (by kernel_rfl) (by simp) ?_
          refine AllReadyH.cons rfl (fun K hK => ?_) ?_
          · skip
            have c4 := CEL.out v2 gv2
            go_simp
            refine hK.out _ _ (by first | assumption | exact grown_after GQ.out gv2) (fun hHeld => ?_)
            clear hK K
            try simp only [Act.put]
            refine wpAnyH_ready (rs := [5]) (by kernel_rfl) (by simp) ?_
            refine AllReadyH.cons rfl (fun K hK => ?_) AllReadyH.nil
            refine step_append_lies _ rfl (.tmp 30) (.tmp 33) 23 rfl (w1.heap.size + 1 + 1) 41 i1 (.agg #[.string ⟨#[]⟩, .int .i64 0, .int .i64 0, .int .i64 0, .string ⟨#[]⟩, .int .i64 0, .slice none 0 0, .slice none 0 0, .slice none 0 0]) 9 136 Tryz.underlying23 hj jz0 jz1 jz2 rfl (by decide) (.slice (some ⟨g1, 0, none⟩) 2 cap1) 2 _ rfl (OWN.out v2 gv2) ⟨_, 0, none⟩ 1 1 (acells (inA ⟨#[97, 120, 101, 115]⟩ ⟨some ⟨q.heap.size, 0, none⟩, 1, 1⟩)) rfl rfl (by first | exact World.news_of_block b2 | (rw [← zv1]; exact World.news_of_block b2)) (acell_one _) (by omega) (by simp only [maxLen]; omega) (by omega) (by have := QL.out; omega) _ rfl ?_
            intro g2 cap2 w9 hown9 hgrow9 hat9 hlt9
            have hgr9 : v2.grownBy w9 (some g1) := hgrow9
            obtain ⟨f4, c4, hrel⟩ := FIN.out v2 w9 g2 cap2 gv2 b1 (by omega) hown9 hgr9
            refine hK.out _ _ (grown_past (grown_after GQ.out gv2) hgr9 WG.out) (fun hHeld => ?_)
            clear hK K
            try simp only [Act.put]
            refine wpAnyH_take (i := 6) (v := ?_) rfl (by kernel_rfl) (by kernel_rfl) (by kernel_rfl) (fun _ _ _ h => h) (Or.inl ⟨by kernel_rfl, ?_⟩) (by assumption) ?_
            rotate_left 1
            · (intro wS hSw; go_simp; (try with_reducible rfl))
            try simp only [Act.put]
            refine wpAnyH_ready (rs := [7]) (by kernel_rfl) (by simp) ?_
            refine AllReadyH.cons rfl (fun K hK => ?_) AllReadyH.nil
            go_simp
            refine hK.out _ _ hrel.1 (fun hHeld => ?_)
            clear hK K
            try simp only [Act.put]
            refine wpAnyH_done (by kernel_rfl) ?_ _
            go_simp
            go_wp2_with fail
            go_meet
            exact hrel
          exact AllReadyH.nil
        exact AllReadyH.nil
      exact AllReadyH.nil
    case rest =>
      obtain ⟨hgc, ga, gc, s1, s2, s3, kc, ac, j1, j2, j3⟩ := hcut
      clear OW OQ OWN CEL MI3 FIN HQ1 HQ2 GQ QL KQ WG D3 Z3 GPD KD K8 E1 E2
      have sz1 := GN.out.size
      have zn := ZN.out
      have sz2 : w.heap.size ≤ w1.heap.size := G1.out.size
      have GC := hide (grown_drop GN.out hgc (by omega))
      have sz3 : w0.heap.size ≤ w1.heap.size := G01.out.size
      have GC0 := hide (grown_drop GN0.out hgc (by omega))
      have SC := hide ((hgc.block w1.heap.size (by omega) (by simp)).trans SN.out)
      obtain ⟨wT, hwT⟩ : ∃ wT, wT = wc.alloc (.cells #[.int .i64 tx, .slice xa x.length xc, .slice ua un uc] 32) := ⟨_, rfl⟩
      have e0 := heap_alloc_new wc (.cells #[.int .i64 tx, .slice xa x.length xc, .slice ua un uc] 32)
      rw [← hwT] at e0
      have gt : wc.grownBy wT none := by rw [hwT]; exact grown_new _ _
      have GT := hide (grown_trans GC.out gt)
      have GT0 := hide (grown_trans GC0.out gt)
      have E1 := hide (sl_do ⟨⟨#[83, 108, 105, 99, 101]⟩, ⟨#[]⟩, ⟨some ⟨w1.heap.size, 0, none⟩, 1, 1⟩, ⟨#[121]⟩, ⟨ga, 3, gc⟩⟩ (slAt s1 s2 s3 [0] [at0] [axis]) ⟨#[120]⟩ rfl ⟨some ⟨wc.heap.size, 0, none⟩, 1, 1⟩ ⟨tx, ⟨xa, x.length, xc⟩, ⟨ua, un, uc⟩⟩ x xs wT (HL.out.more GT.out) (sl_in (x_strs (box_kept SC.out gt)) (j1.more gt) (j2.more gt) (j3.more gt) (ac.more gt)) (sl_ok (j1.more gt) (j2.more gt) (j3.more gt) (ac.more gt)) (sl_check _ _ _ _ _ _) (sl_then _ _ _ _ _ _) (by show 1 ≤ 1048576; omega) (one_ten _ e0 (HX.out.more GT.out) (HXS.out.more GT.out)))
      unfold nval at E1
      simp only at E1
      obtain ⟨r1, hr1⟩ : ∃ r, r = slG (slAt s1 s2 s3 [0] [at0] [axis]) tx x xs := ⟨_, rfl⟩
      have HR1 := hide hr1
      rw [← hr1] at E1
      obtain ⟨n0, n1, n2, n3, n4⟩ := five_cells kc
      obtain ⟨x0, x1, x2⟩ := ten_cells (BX.out wc GC0.out)
      have KC := hide (box_kept kc gt)
      have ST := hide (box_kept SC.out gt)
      have NT : Hid (w1.heap.size + 1 < wT.heap.size) := (Array.getElem?_eq_some_iff.1 KC.out).1
      clear hr1 e0 gt ac j1 j2 j3 kc hgc sz1 zn sz2 sz3
      go_wp2_with fail
      rw [← hwT]
      clear hwT n0 n1 n2 n3 n4 x0 x1 x2
      refine E1.out.mono ?_
      intro e w2 hq
      obtain ⟨hg2, ⟨aa, an, ac⟩, ⟨ad, am, ak⟩, rfl, hla⟩ := do_past hq
      simp only
      obtain ⟨p2, hp2⟩ : ∃ W, W = w2.alloc (.cells #[.int .i64 (rTy r1), .slice aa an ac, .slice ad am ak] 32) := ⟨_, rfl⟩
      obtain ⟨bp2, zp2⟩ := new_alloc (.cells #[.int .i64 (rTy r1), .slice aa an ac, .slice ad am ak] 32) (x := w2) rfl
      rw [← hp2] at bp2 zp2
      have gp2 : w2.grownBy p2 none := by rw [hp2]; exact grown_new _ _
      have ZP := hide zp2
      have BP2 := hide bp2
      have LA : Hid (∀ wx, p2.grownBy wx (some (w1.heap.size + 1)) → IsInts wx (.slice aa an ac) (rL r1) ∧ IsInts wx (.slice ad am ak) (rZ r1)) := fun wx hx => hla _ wx NT.out (by
        have h1 : w2.grownBy wx (some (w1.heap.size + 1)) := ⟨hx.1.trans gp2.1, hx.2.trans gp2.2, hx.3.trans gp2.3, Nat.le_trans gp2.4 hx.4, fun i hi hr => (hx.5 i (Nat.lt_of_lt_of_le hi gp2.4) hr).trans (gp2.5 i hi (by simp))⟩
        exact h1)
      have GP := hide (grown_trans GT.out (grown_trans hg2 gp2))
      have GP0 := hide (grown_trans GT0.out (grown_trans hg2 gp2))
      have KN := hide (box_kept KC.out (grown_trans hg2 gp2))
      have SP := hide (box_kept ST.out (grown_trans hg2 gp2))
      have NL0 : Hid (w1.heap.size + 1 < w2.heap.size) := Nat.lt_of_lt_of_le NT.out hg2.size
      clear hq hla hg2 gp2 bp2 zp2 E1 KC ST NT
      go_wp2_with fail
      rw [← hp2]
      clear hp2
      obtain ⟨pd, hpd⟩ : ∃ pd, pd = (((p2.alloc (.cells #[.int .i64 at0] 2)).alloc (.cells #[.string ⟨#[115, 116, 97, 114, 116, 115]⟩, .int .i64 7, .int .i64 0, .int .i64 0, .string ⟨#[]⟩, .int .i64 0, .slice none 0 0, .slice none 0 0, .slice (some ⟨w2.heap.size + 1, 0, none⟩) 1 1] 41)).alloc (.cells #[.int .i64 65536] 2)).alloc (.cells #[.string ⟨#[101, 110, 100, 115]⟩, .int .i64 7, .int .i64 0, .int .i64 0, .string ⟨#[]⟩, .int .i64 0, .slice none 0 0, .slice none 0 0, .slice (some ⟨w2.heap.size + 1 + 1 + 1, 0, none⟩) 1 1] 41) := ⟨_, rfl⟩
      obtain ⟨d0, z0⟩ := new_alloc (.cells #[.int .i64 at0] 2) ZP.out
      obtain ⟨d1, z1⟩ := new_alloc (.cells #[.string ⟨#[115, 116, 97, 114, 116, 115]⟩, .int .i64 7, .int .i64 0, .int .i64 0, .string ⟨#[]⟩, .int .i64 0, .slice none 0 0, .slice none 0 0, .slice (some ⟨w2.heap.size + 1, 0, none⟩) 1 1] 41) z0
      obtain ⟨d2, z2⟩ := new_alloc (.cells #[.int .i64 65536] 2) z1
      obtain ⟨d3, z3⟩ := new_alloc (.cells #[.string ⟨#[101, 110, 100, 115]⟩, .int .i64 7, .int .i64 0, .int .i64 0, .string ⟨#[]⟩, .int .i64 0, .slice none 0 0, .slice none 0 0, .slice (some ⟨w2.heap.size + 1 + 1 + 1, 0, none⟩) 1 1] 41) z2
      replace d0 := up_alloc (.cells #[.string ⟨#[101, 110, 100, 115]⟩, .int .i64 7, .int .i64 0, .int .i64 0, .string ⟨#[]⟩, .int .i64 0, .slice none 0 0, .slice none 0 0, .slice (some ⟨w2.heap.size + 1 + 1 + 1, 0, none⟩) 1 1] 41) (up_alloc (.cells #[.int .i64 65536] 2) (up_alloc (.cells #[.string ⟨#[115, 116, 97, 114, 116, 115]⟩, .int .i64 7, .int .i64 0, .int .i64 0, .string ⟨#[]⟩, .int .i64 0, .slice none 0 0, .slice none 0 0, .slice (some ⟨w2.heap.size + 1, 0, none⟩) 1 1] 41) d0))
      replace d1 := up_alloc (.cells #[.string ⟨#[101, 110, 100, 115]⟩, .int .i64 7, .int .i64 0, .int .i64 0, .string ⟨#[]⟩, .int .i64 0, .slice none 0 0, .slice none 0 0, .slice (some ⟨w2.heap.size + 1 + 1 + 1, 0, none⟩) 1 1] 41) (up_alloc (.cells #[.int .i64 65536] 2) d1)
      replace d2 := up_alloc (.cells #[.string ⟨#[101, 110, 100, 115]⟩, .int .i64 7, .int .i64 0, .int .i64 0, .string ⟨#[]⟩, .int .i64 0, .slice none 0 0, .slice none 0 0, .slice (some ⟨w2.heap.size + 1 + 1 + 1, 0, none⟩) 1 1] 41) d2
      rw [← hpd] at d0 d1 d2 d3 z3
      have gpd : p2.grownBy pd none := by rw [hpd]; exact grown_trans (grown_trans (grown_trans (grown_new _ _) (grown_new _ _)) (grown_new _ _)) (grown_new _ _)
      have NL : w1.heap.size + 1 < w2.heap.size + 1 := by rw [← ZP.out]; exact (Array.getElem?_eq_some_iff.1 KN.out).1
      have WL : p2.heap.size ≤ w2.heap.size + 1 := Nat.le_of_eq ZP.out
      have HN := hide (World.grownBy.refl p2 (some (w1.heap.size + 1)))
      have OW := hide (own_lit (base := w2.heap.size + 1) (size := 9) (n := 1) d1 (by omega) rfl (by omega))
      have M1 := hide (mints_any ⟨#[115, 116, 97, 114, 116, 115]⟩ ⟨(some ⟨w2.heap.size + 1, 0, none⟩), 1, 1⟩ (p2.alloc (.cells #[.int .i64 at0] 2)))
      have M2 := hide (mints_any ⟨#[101, 110, 100, 115]⟩ ⟨(some ⟨w2.heap.size + 1 + 1 + 1, 0, none⟩), 1, 1⟩ (((p2.alloc (.cells #[.int .i64 at0] 2)).alloc (.cells #[.string ⟨#[115, 116, 97, 114, 116, 115]⟩, .int .i64 7, .int .i64 0, .int .i64 0, .string ⟨#[]⟩, .int .i64 0, .slice none 0 0, .slice none 0 0, .slice (some ⟨w2.heap.size + 1, 0, none⟩) 1 1] 41)).alloc (.cells #[.int .i64 65536] 2)))
      simp only [World.size_alloc, ZP.out] at M1 M2
      have KD := hide (box_kept KN.out gpd)
      have E1 := hide d0
      have E2 := hide d2
      have D3 := hide d3
      have Z3 := hide z3
      have GPD := hide gpd
      clear d0 d1 d2 d3 z0 z1 z2 z3 gpd
      have zpe := ZP.out
      go_wp2_with fail
      refine M1.out.mono ?_
      rintro e wy ⟨rfl, rfl⟩
      go_wp2_with fail
      refine M2.out.mono ?_
      rintro e wy ⟨rfl, rfl⟩
      rw [← hpd]
      clear hpd M1 M2 zpe
      go_wp2_with (first | (at_builtin; refine wpList_append_lies _ rfl (.tmp 45) (.tmp 47) 23 rfl (w2.heap.size + 1) 41 i1 (.agg #[.string ⟨#[]⟩, .int .i64 0, .int .i64 0, .int .i64 0, .string ⟨#[]⟩, .int .i64 0, .slice none 0 0, .slice none 0 0, .slice none 0 0]) 9 136 Tryz.underlying23 hj jz0 jz1 jz2 rfl (by decide) (.slice (some ⟨w2.heap.size + 1 + 1, 0, none⟩) 1 1) 1 _ rfl (by exact OW.out) ⟨w2.heap.size + 1 + 1 + 1 + 1, 0, none⟩ 1 1 (acells (inA ⟨#[101, 110, 100, 115]⟩ ⟨(some ⟨w2.heap.size + 1 + 1 + 1, 0, none⟩), 1, 1⟩)) rfl rfl (by exact World.news_of_block D3.out) (acell_one _) (by omega) (by simp only [maxLen]; omega) (by omega) (by rw [Z3.out]; omega) _ rfl ?_; intro g1 cap1 w8 hown8 hgrow8 hat8 hlt8; have K8 := hide ((hgrow8.block (w1.heap.size + 1) (by rw [Z3.out]; omega) (by simp only [Value.ownBlock, ne_eq, Option.some.injEq]; omega)).trans KD.out); have f4 := (nod_frozen K8.out).2.2.2.2; have c4 := (five_cells K8.out).2.2.2.2) | fail)
      obtain ⟨q, hq⟩ : ∃ q, q = w8.setCell ⟨w1.heap.size + 1, 4, none⟩ (.slice (some ⟨g1, 0, none⟩) 2 cap1) := ⟨_, rfl⟩
      have KQ := hide (heap_setCell_same w8 (w1.heap.size + 1) 4 _ _ (.slice (some ⟨g1, 0, none⟩) 2 cap1) K8.out)
      rw [← hq] at KQ ⊢
      have gq : w8.grownBy q (some (w1.heap.size + 1)) := by rw [hq]; exact set_grown _ _ _ _
      have hg1 : w2.heap.size + 1 ≤ g1 := (World.ownsRow.lt hown8 g1 rfl).1
      have hg1n : g1 ≠ w2.heap.size + 1 ∧ g1 ≠ w2.heap.size + 1 + 1 + 1 := by
        rcases hat8 with e | e
        · simp only [Value.ownBlock, Option.some.injEq] at e; omega
        · have := Z3.out; omega
      have OQ := hide (hown8.kept gq (.inr (by simp only [Value.ownBlock, ne_eq, Option.some.injEq]; omega)))
      have HQ1 := hide ((gq.block _ (by have := hgrow8.size; rw [Z3.out] at this; omega) (by simp only [ne_eq, Option.some.injEq]; omega)).trans ((hgrow8.block (w2.heap.size + 1) (by rw [Z3.out]; omega) (by simp [Value.ownBlock])).trans E1.out))
      have HQ2 := hide ((gq.block _ (by have := hgrow8.size; rw [Z3.out] at this; omega) (by simp only [ne_eq, Option.some.injEq]; omega)).trans ((hgrow8.block (w2.heap.size + 1 + 1 + 1) (by rw [Z3.out]; omega) (by simp [Value.ownBlock])).trans E2.out))
      have hgr8 : pd.grownBy w8 (some (w2.heap.size + 1 + 1)) := hgrow8
      have GQ : Hid (p2.grownBy q (some (w1.heap.size + 1))) := grown_same (grown_past (grown_after HN.out GPD.out) hgr8 (by omega)) gq
      have QL : Hid (w2.heap.size + 1 + 1 + 1 < q.heap.size ∧ w1.heap.size + 1 < q.heap.size ∧ g1 < q.heap.size) := by
        have h1 := hgrow8.size
        have h2 := gq.size
        rw [Z3.out] at h1
        exact ⟨by omega, by omega, by omega⟩
      have OWN : Hid (∀ v2, q.grownBy v2 none → v2.ownsRow (w2.heap.size + 1) 41 9 (.slice (some ⟨g1, 0, none⟩) 2 cap1) 2 (acells (inA ⟨#[115, 116, 97, 114, 116, 115]⟩ ⟨(some ⟨w2.heap.size + 1, 0, none⟩), 1, 1⟩) ++ acells (inA ⟨#[101, 110, 100, 115]⟩ ⟨(some ⟨w2.heap.size + 1 + 1 + 1, 0, none⟩), 1, 1⟩))) := fun v2 h => OQ.out.kept h (by simp [Value.ownBlock])
      have CEL : Hid (∀ v2, q.grownBy v2 none → v2.cell? ⟨w1.heap.size + 1, 4, none⟩ = some (.slice (some ⟨g1, 0, none⟩) 2 cap1)) := fun v2 h => (five_cells (box_kept KQ.out h)).2.2.2.2
      have MI3 : Hid (∀ v, Calls Tryz.prog 13 #[.string ⟨#[97, 120, 101, 115]⟩, .slice (some ⟨q.heap.size, 0, none⟩) 1 1] v fun e w' => e = .returned (.slice (some ⟨v.heap.size, 0, none⟩) 1 1) ∧ w' = v.alloc (.cells #[.string ⟨#[97, 120, 101, 115]⟩, .int .i64 7, .int .i64 0, .int .i64 0, .string ⟨#[]⟩, .int .i64 0, .slice none 0 0, .slice none 0 0, .slice (some ⟨q.heap.size, 0, none⟩) 1 1] 41)) := fun v => mints_any ⟨#[97, 120, 101, 115]⟩ ⟨some ⟨q.heap.size, 0, none⟩, 1, 1⟩ v
      have FIN : Hid (∀ (v2 w9 : World) (g2 cap2 : Nat), q.grownBy v2 none → v2.heap[q.heap.size]? = some (.cells #[.int .i64 axis] 2) → q.heap.size < v2.heap.size → w9.ownsRow (w2.heap.size + 1) 41 9 (.slice (some ⟨g2, 0, none⟩) 3 cap2) 3 ((acells (inA ⟨#[115, 116, 97, 114, 116, 115]⟩ ⟨(some ⟨w2.heap.size + 1, 0, none⟩), 1, 1⟩) ++ acells (inA ⟨#[101, 110, 100, 115]⟩ ⟨(some ⟨w2.heap.size + 1 + 1 + 1, 0, none⟩), 1, 1⟩)) ++ acells (inA ⟨#[97, 120, 101, 115]⟩ ⟨some ⟨q.heap.size, 0, none⟩, 1, 1⟩)) → v2.grownBy w9 (some g1) → w9.frozen? ⟨w1.heap.size + 1, 4, none⟩ = false ∧ w9.cell? ⟨w1.heap.size + 1, 4, none⟩ = some (.slice (some ⟨g1, 0, none⟩) 2 cap1) ∧ (fun wx => p2.grownBy wx (some (w1.heap.size + 1)) ∧ ∃ (ga : Option Addr) (gc : Nat) (s1 s2 s3 : Sl), wx.heap[w1.heap.size + 1]? = some (.cells #[.string ⟨#[83, 108, 105, 99, 101]⟩, .string ⟨#[]⟩, .slice (some ⟨w1.heap.size, 0, none⟩) 1 1, .string ⟨#[121]⟩, .slice ga 3 gc] 25 (0, 0)) ∧ IsAttrs wx (.slice ga 3 gc) [inA ⟨#[115, 116, 97, 114, 116, 115]⟩ s1, inA ⟨#[101, 110, 100, 115]⟩ s2, inA ⟨#[97, 120, 101, 115]⟩ s3] ∧ IsInts wx s1.v [at0] ∧ IsInts wx s2.v [65536] ∧ IsInts wx s3.v [axis]) (w9.setCell ⟨w1.heap.size + 1, 4, none⟩ (.slice (some ⟨g2, 0, none⟩) 3 cap2))) := fun v2 w9 g2 cap2 h1 h2 h2s h3 h4 => by
        have q1 := QL.out
        have hs2 := h1.size
        have hs9 := h4.size
        have K9 := (h4.block (w1.heap.size + 1) (by omega) (by simp only [ne_eq, Option.some.injEq]; omega)).trans (box_kept KQ.out h1)
        have kz := heap_setCell_same w9 (w1.heap.size + 1) 4 _ _ (.slice (some ⟨g2, 0, none⟩) 3 cap2) K9
        have gz := set_grown w9 (w1.heap.size + 1) 4 (.slice (some ⟨g2, 0, none⟩) 3 cap2)
        have up : ∀ (i : Nat) (o : Obj), i ≠ w1.heap.size + 1 → i ≠ g1 → i < v2.heap.size → v2.heap[i]? = some o → (w9.setCell ⟨w1.heap.size + 1, 4, none⟩ (.slice (some ⟨g2, 0, none⟩) 3 cap2)).heap[i]? = some o := fun i o e1 e2 e3 e4 => (gz.block i (by omega) (by simp only [ne_eq, Option.some.injEq]; exact e1)).trans ((h4.block i e3 (by simp only [ne_eq, Option.some.injEq]; exact e2)).trans e4)
        refine ⟨(nod_frozen K9).2.2.2.2, (five_cells K9).2.2.2.2, grown_same (grown_past (grown_after GQ.out h1) h4 (by omega)) gz, _, _, ⟨(some ⟨w2.heap.size + 1, 0, none⟩), 1, 1⟩, ⟨(some ⟨w2.heap.size + 1 + 1 + 1, 0, none⟩), 1, 1⟩, ⟨some ⟨q.heap.size, 0, none⟩, 1, 1⟩, kz, own_attrs (h3.kept gz (.inr (by have := (World.ownsRow.lt h3 g2 rfl).1; simp only [Value.ownBlock, ne_eq, Option.some.injEq]; omega))) (by simp), blk_ints (zs := [at0]) (up _ _ (by omega) (by omega) (by omega) (box_kept HQ1.out h1)) (by simp) (by simp; omega), blk_ints (zs := [65536]) (up _ _ (by omega) (by omega) (by omega) (box_kept HQ2.out h1)) (by simp) (by simp), blk_ints (zs := [axis]) (up _ _ (by omega) (by omega) h2s h2) (by simp) (by simp; omega)⟩
      have WG : Hid (p2.heap.size ≤ g1) := by show _ ≤ _; omega
      clear hgr8 hq hown8 hgrow8 hat8 hlt8 f4 c4 gq hg1n NL WL
      go_cut [] from 50 to 56 (fun wx => p2.grownBy wx (some (w1.heap.size + 1)) ∧ ∃ (ga : Option Addr) (gc : Nat) (s1 s2 s3 : Sl), wx.heap[w1.heap.size + 1]? = some (.cells #[.string ⟨#[83, 108, 105, 99, 101]⟩, .string ⟨#[]⟩, .slice (some ⟨w1.heap.size, 0, none⟩) 1 1, .string ⟨#[121]⟩, .slice ga 3 gc] 25 (0, 0)) ∧ IsAttrs wx (.slice ga 3 gc) [inA ⟨#[115, 116, 97, 114, 116, 115]⟩ s1, inA ⟨#[101, 110, 100, 115]⟩ s2, inA ⟨#[97, 120, 101, 115]⟩ s3] ∧ IsInts wx s1.v [at0] ∧ IsInts wx s2.v [65536] ∧ IsInts wx s3.v [axis])
      case first =>
        refine wp_region_held_drew (S := fun w' => p2.grownBy w' (some (w1.heap.size + 1))) (by kernel_rfl) (by first | assumption | exact GQ.out | exact grown_after GQ.out (grown_drew (grown_refl _))) (fun hHeld => ?_)
        refine wpAnyH_take (i := 0) (v := ?_) rfl (by kernel_rfl) (by kernel_rfl) (by kernel_rfl) (fun _ _ _ h => h) (Or.inl ⟨by kernel_rfl, ?_⟩) (by assumption) ?_
        rotate_left 1
        · (intro wS hSw; go_simp; (try with_reducible rfl))
        try simp only [Act.put]
        refine wpAnyH_take (i := 2) (v := ?_) rfl (by kernel_rfl) (by kernel_rfl) (by kernel_rfl) (fun _ _ _ h => h) (Or.inl ⟨by kernel_rfl, ?_⟩) (by assumption) ?_
        rotate_left 1
        · (intro wS hSw; go_simp; (try with_reducible rfl))
        try simp only [Act.put]
        refine wpAnyH_ready (rs := [1, 3]) (by kernel_rfl) (by simp) ?_
        refine AllReadyH.cons rfl (fun K hK => ?_) ?_
        · skip
          have c4 := CEL.out q (grown_refl _)
          go_simp
          refine hK.out _ _ (by first | assumption | exact GQ.out | exact grown_after GQ.out (grown_drew (grown_refl _))) (fun hHeld => ?_)
          clear hK K
          try simp only [Act.put]
          refine wpAnyH_ready (rs := [3]) (by kernel_rfl) (by simp) ?_
          refine AllReadyH.cons rfl (fun K hK => ?_) ?_
          · skip
            go_simp
            refine hK.out _ _ (by first | assumption | exact grown_after GQ.out (grown_new _ _) | exact grown_after GQ.out (grown_drew (grown_new _ _)) | exact grown_after GQ.out (grown_trans (grown_drew (grown_refl _)) (grown_new _ _))) (fun hHeld => ?_)
            clear hK K
            try simp only [Act.put]
            have b1 : ((q.alloc (.cells #[.int .i64 axis] 2)).drew).heap[q.heap.size]? = some (.cells #[.int .i64 axis] 2) := heap_alloc_new q (.cells #[.int .i64 axis] 2)
            have gv1 : q.grownBy ((q.alloc (.cells #[.int .i64 axis] 2)).drew) none := grown_drew (grown_new _ _)
            have zv1 : ((q.alloc (.cells #[.int .i64 axis] 2)).drew).heap.size = q.heap.size + 1 := by simp
            generalize hv1 : (q.alloc (.cells #[.int .i64 axis] 2)).drew = v1 at b1 gv1 zv1 hHeld ⊢
            clear hv1
            refine wpAnyH_ready (rs := [4]) (by kernel_rfl) (by simp) ?_
            refine AllReadyH.cons rfl (fun K hK => ?_) ?_
            · skip
              go_simp
              refine (MI3.out v1).mono ?_
              rintro e v2 ⟨rfl, hv2⟩
              have b2 := heap_alloc_new v1 (.cells #[.string ⟨#[97, 120, 101, 115]⟩, .int .i64 7, .int .i64 0, .int .i64 0, .string ⟨#[]⟩, .int .i64 0, .slice none 0 0, .slice none 0 0, .slice (some ⟨q.heap.size, 0, none⟩) 1 1] 41)
              rw [← hv2] at b2
              have gv12 : v1.grownBy v2 none := by rw [hv2]; exact grown_new _ _
              have zv2 : v2.heap.size = v1.heap.size + 1 := by rw [hv2]; simp
              clear hv2
              have b1 := box_kept b1 gv12
              have gv2 := grown_trans gv1 gv12
              refine hK.out _ _ (grown_after GQ.out gv2) (fun hHeld => ?_)
              clear hK K
              try simp only [Act.put]
              refine wpAnyH_ready (rs := [5]) (by kernel_rfl) (by simp) ?_
              refine AllReadyH.cons rfl (fun K hK => ?_) AllReadyH.nil
              refine step_append_lies _ rfl (.tmp 51) (.tmp 54) 23 rfl (w2.heap.size + 1) 41 i1 (.agg #[.string ⟨#[]⟩, .int .i64 0, .int .i64 0, .int .i64 0, .string ⟨#[]⟩, .int .i64 0, .slice none 0 0, .slice none 0 0, .slice none 0 0]) 9 136 Tryz.underlying23 hj jz0 jz1 jz2 rfl (by decide) (.slice (some ⟨g1, 0, none⟩) 2 cap1) 2 _ rfl (OWN.out v2 gv2) ⟨_, 0, none⟩ 1 1 (acells (inA ⟨#[97, 120, 101, 115]⟩ ⟨some ⟨q.heap.size, 0, none⟩, 1, 1⟩)) rfl rfl (by first | exact World.news_of_block b2 | (rw [← zv1]; exact World.news_of_block b2)) (acell_one _) (by omega) (by simp only [maxLen]; omega) (by omega) (by have := QL.out; omega) _ rfl ?_
              intro g2 cap2 w9 hown9 hgrow9 hat9 hlt9
              have hgr9 : v2.grownBy w9 (some g1) := hgrow9
              obtain ⟨f4, c4, hrel⟩ := FIN.out v2 w9 g2 cap2 gv2 b1 (by omega) hown9 hgr9
              refine hK.out _ _ (grown_past (grown_after GQ.out gv2) hgr9 WG.out) (fun hHeld => ?_)
              clear hK K
              try simp only [Act.put]
              refine wpAnyH_take (i := 6) (v := ?_) rfl (by kernel_rfl) (by kernel_rfl) (by kernel_rfl) (fun _ _ _ h => h) (Or.inl ⟨by kernel_rfl, ?_⟩) (by assumption) ?_
              rotate_left 1
              · (intro wS hSw; go_simp; (try with_reducible rfl))
              try simp only [Act.put]
              refine wpAnyH_ready (rs := [7]) (by kernel_rfl) (by simp) ?_
              refine AllReadyH.cons rfl (fun K hK => ?_) AllReadyH.nil
              go_simp
              refine hK.out _ _ hrel.1 (fun hHeld => ?_)
              clear hK K
              try simp only [Act.put]
              refine wpAnyH_done (by kernel_rfl) ?_ _
              go_simp
              go_wp2_with fail
              go_meet
              exact hrel
            exact AllReadyH.nil
          exact AllReadyH.nil
        refine AllReadyH.cons rfl (fun K hK => ?_) ?_
        · skip
          go_simp
          refine hK.out _ _ (by first | assumption | exact grown_after GQ.out (grown_new _ _) | exact grown_after GQ.out (grown_drew (grown_new _ _)) | exact grown_after GQ.out (grown_trans (grown_drew (grown_refl _)) (grown_new _ _))) (fun hHeld => ?_)
          clear hK K
          try simp only [Act.put]
          have b1 : ((q.alloc (.cells #[.int .i64 axis] 2)).drew).heap[q.heap.size]? = some (.cells #[.int .i64 axis] 2) := heap_alloc_new q (.cells #[.int .i64 axis] 2)
          have gv1 : q.grownBy ((q.alloc (.cells #[.int .i64 axis] 2)).drew) none := grown_drew (grown_new _ _)
          have zv1 : ((q.alloc (.cells #[.int .i64 axis] 2)).drew).heap.size = q.heap.size + 1 := by simp
          generalize hv1 : (q.alloc (.cells #[.int .i64 axis] 2)).drew = v1 at b1 gv1 zv1 hHeld ⊢
          clear hv1
          refine wpAnyH_ready (rs := [1, 4]) (by kernel_rfl) (by simp) ?_
          refine AllReadyH.cons rfl (fun K hK => ?_) ?_
          · skip
            have c4 := CEL.out v1 gv1
            go_simp
            refine hK.out _ _ (by first | assumption | exact grown_after GQ.out gv1) (fun hHeld => ?_)
            clear hK K
            try simp only [Act.put]
            refine wpAnyH_ready (rs := [4]) (by kernel_rfl) (by simp) ?_
            refine AllReadyH.cons rfl (fun K hK => ?_) ?_
            · skip
              go_simp
              refine (MI3.out v1).mono ?_
              rintro e v2 ⟨rfl, hv2⟩
              have b2 := heap_alloc_new v1 (.cells #[.string ⟨#[97, 120, 101, 115]⟩, .int .i64 7, .int .i64 0, .int .i64 0, .string ⟨#[]⟩, .int .i64 0, .slice none 0 0, .slice none 0 0, .slice (some ⟨q.heap.size, 0, none⟩) 1 1] 41)
              rw [← hv2] at b2
              have gv12 : v1.grownBy v2 none := by rw [hv2]; exact grown_new _ _
              have zv2 : v2.heap.size = v1.heap.size + 1 := by rw [hv2]; simp
              clear hv2
              have b1 := box_kept b1 gv12
              have gv2 := grown_trans gv1 gv12
              refine hK.out _ _ (grown_after GQ.out gv2) (fun hHeld => ?_)
              clear hK K
              try simp only [Act.put]
              refine wpAnyH_ready (rs := [5]) (by kernel_rfl) (by simp) ?_
              refine AllReadyH.cons rfl (fun K hK => ?_) AllReadyH.nil
              refine step_append_lies _ rfl (.tmp 51) (.tmp 54) 23 rfl (w2.heap.size + 1) 41 i1 (.agg #[.string ⟨#[]⟩, .int .i64 0, .int .i64 0, .int .i64 0, .string ⟨#[]⟩, .int .i64 0, .slice none 0 0, .slice none 0 0, .slice none 0 0]) 9 136 Tryz.underlying23 hj jz0 jz1 jz2 rfl (by decide) (.slice (some ⟨g1, 0, none⟩) 2 cap1) 2 _ rfl (OWN.out v2 gv2) ⟨_, 0, none⟩ 1 1 (acells (inA ⟨#[97, 120, 101, 115]⟩ ⟨some ⟨q.heap.size, 0, none⟩, 1, 1⟩)) rfl rfl (by first | exact World.news_of_block b2 | (rw [← zv1]; exact World.news_of_block b2)) (acell_one _) (by omega) (by simp only [maxLen]; omega) (by omega) (by have := QL.out; omega) _ rfl ?_
              intro g2 cap2 w9 hown9 hgrow9 hat9 hlt9
              have hgr9 : v2.grownBy w9 (some g1) := hgrow9
              obtain ⟨f4, c4, hrel⟩ := FIN.out v2 w9 g2 cap2 gv2 b1 (by omega) hown9 hgr9
              refine hK.out _ _ (grown_past (grown_after GQ.out gv2) hgr9 WG.out) (fun hHeld => ?_)
              clear hK K
              try simp only [Act.put]
              refine wpAnyH_take (i := 6) (v := ?_) rfl (by kernel_rfl) (by kernel_rfl) (by kernel_rfl) (fun _ _ _ h => h) (Or.inl ⟨by kernel_rfl, ?_⟩) (by assumption) ?_
              rotate_left 1
              · (intro wS hSw; go_simp; (try with_reducible rfl))
              try simp only [Act.put]
              refine wpAnyH_ready (rs := [7]) (by kernel_rfl) (by simp) ?_
              refine AllReadyH.cons rfl (fun K hK => ?_) AllReadyH.nil
              go_simp
              refine hK.out _ _ hrel.1 (fun hHeld => ?_)
              clear hK K
              try simp only [Act.put]
              refine wpAnyH_done (by kernel_rfl) ?_ _
              go_simp
              go_wp2_with fail
              go_meet
              exact hrel
            exact AllReadyH.nil
          refine AllReadyH.cons rfl (fun K hK => ?_) ?_
          · skip
            go_simp
            refine (MI3.out v1).mono ?_
            rintro e v2 ⟨rfl, hv2⟩
            have b2 := heap_alloc_new v1 (.cells #[.string ⟨#[97, 120, 101, 115]⟩, .int .i64 7, .int .i64 0, .int .i64 0, .string ⟨#[]⟩, .int .i64 0, .slice none 0 0, .slice none 0 0, .slice (some ⟨q.heap.size, 0, none⟩) 1 1] 41)
            rw [← hv2] at b2
            have gv12 : v1.grownBy v2 none := by rw [hv2]; exact grown_new _ _
            have zv2 : v2.heap.size = v1.heap.size + 1 := by rw [hv2]; simp
            clear hv2
            have b1 := box_kept b1 gv12
            have gv2 := grown_trans gv1 gv12
            refine hK.out _ _ (grown_after GQ.out gv2) (fun hHeld => ?_)
            clear hK K
            try simp only [Act.put]
            refine wpAnyH_ready (rs := [1]) (by kernel_rfl) (by simp) ?_
            refine AllReadyH.cons rfl (fun K hK => ?_) ?_
            · skip
              have c4 := CEL.out v2 gv2
              go_simp
              refine hK.out _ _ (by first | assumption | exact grown_after GQ.out gv2) (fun hHeld => ?_)
              clear hK K
              try simp only [Act.put]
              refine wpAnyH_ready (rs := [5]) (by kernel_rfl) (by simp) ?_
              refine AllReadyH.cons rfl (fun K hK => ?_) AllReadyH.nil
              refine step_append_lies _ rfl (.tmp 51) (.tmp 54) 23 rfl (w2.heap.size + 1) 41 i1 (.agg #[.string ⟨#[]⟩, .int .i64 0, .int .i64 0, .int .i64 0, .string ⟨#[]⟩, .int .i64 0, .slice none 0 0, .slice none 0 0, .slice none 0 0]) 9 136 Tryz.underlying23 hj jz0 jz1 jz2 rfl (by decide) (.slice (some ⟨g1, 0, none⟩) 2 cap1) 2 _ rfl (OWN.out v2 gv2) ⟨_, 0, none⟩ 1 1 (acells (inA ⟨#[97, 120, 101, 115]⟩ ⟨some ⟨q.heap.size, 0, none⟩, 1, 1⟩)) rfl rfl (by first | exact World.news_of_block b2 | (rw [← zv1]; exact World.news_of_block b2)) (acell_one _) (by omega) (by simp only [maxLen]; omega) (by omega) (by have := QL.out; omega) _ rfl ?_
              intro g2 cap2 w9 hown9 hgrow9 hat9 hlt9
              have hgr9 : v2.grownBy w9 (some g1) := hgrow9
              obtain ⟨f4, c4, hrel⟩ := FIN.out v2 w9 g2 cap2 gv2 b1 (by omega) hown9 hgr9
              refine hK.out _ _ (grown_past (grown_after GQ.out gv2) hgr9 WG.out) (fun hHeld => ?_)
              clear hK K
              try simp only [Act.put]
              refine wpAnyH_take (i := 6) (v := ?_) rfl (by kernel_rfl) (by kernel_rfl) (by kernel_rfl) (fun _ _ _ h => h) (Or.inl ⟨by kernel_rfl, ?_⟩) (by assumption) ?_
              rotate_left 1
              · (intro wS hSw; go_simp; (try with_reducible rfl))
              try simp only [Act.put]
              refine wpAnyH_ready (rs := [7]) (by kernel_rfl) (by simp) ?_
              refine AllReadyH.cons rfl (fun K hK => ?_) AllReadyH.nil
              go_simp
              refine hK.out _ _ hrel.1 (fun hHeld => ?_)
              clear hK K
              try simp only [Act.put]
              refine wpAnyH_done (by kernel_rfl) ?_ _
              go_simp
              go_wp2_with fail
              go_meet
              exact hrel
            exact AllReadyH.nil
          exact AllReadyH.nil
        exact AllReadyH.nil
      case rest =>
        obtain ⟨hgc, ga, gc, s1', s2', s3', kc, ac, j1, j2, j3⟩ := hcut
        clear OW OQ OWN CEL MI3 FIN HQ1 HQ2 GQ QL KQ WG D3 Z3 GPD KD K8 E1 E2
        have nl := NL0.out
        have zp2 := ZP.out
        have sz2 : w.heap.size ≤ w1.heap.size := G1.out.size
        have GC := hide (grown_drop GP.out hgc (by omega))
        have sz3 : w0.heap.size ≤ w1.heap.size := G01.out.size
        have GC0 := hide (grown_drop GP0.out hgc (by omega))
        have SC := hide ((hgc.block w1.heap.size (by omega) (by simp)).trans SP.out)
        have BA := hide ((hgc.block w2.heap.size (by omega) (by simp only [ne_eq, Option.some.injEq]; omega)).trans BP2.out)
        obtain ⟨wT, hwT⟩ : ∃ wT, wT = wc.alloc (.cells #[.int .i64 tx, .slice xa x.length xc, .slice ua un uc] 32) := ⟨_, rfl⟩
        have e0 := heap_alloc_new wc (.cells #[.int .i64 tx, .slice xa x.length xc, .slice ua un uc] 32)
        rw [← hwT] at e0
        have gt : wc.grownBy wT none := by rw [hwT]; exact grown_new _ _
        have GT := hide (grown_trans GC.out gt)
        have GT0 := hide (grown_trans GC0.out gt)
        have GA := hide (grown_after hgc gt)
        have E1 := hide (sl_do ⟨⟨#[83, 108, 105, 99, 101]⟩, ⟨#[]⟩, ⟨some ⟨w1.heap.size, 0, none⟩, 1, 1⟩, ⟨#[121]⟩, ⟨ga, 3, gc⟩⟩ (slAt s1' s2' s3' [at0] [65536] [axis]) ⟨#[120]⟩ rfl ⟨some ⟨wc.heap.size, 0, none⟩, 1, 1⟩ ⟨tx, ⟨xa, x.length, xc⟩, ⟨ua, un, uc⟩⟩ x xs wT (HL.out.more GT.out) (sl_in (x_strs (box_kept SC.out gt)) (j1.more gt) (j2.more gt) (j3.more gt) (ac.more gt)) (sl_ok (j1.more gt) (j2.more gt) (j3.more gt) (ac.more gt)) (sl_check _ _ _ _ _ _) (sl_then _ _ _ _ _ _) (by show 1 ≤ 1048576; omega) (one_ten _ e0 (HX.out.more GT.out) (HXS.out.more GT.out)))
        unfold nval at E1
        simp only at E1
        obtain ⟨r2, hr2⟩ : ∃ r, r = slG (slAt s1' s2' s3' [at0] [65536] [axis]) tx x xs := ⟨_, rfl⟩
        have HR2 := hide hr2
        rw [← hr2] at E1
        obtain ⟨n0, n1, n2, n3, n4⟩ := five_cells kc
        obtain ⟨x0, x1, x2⟩ := ten_cells (BX.out wc GC0.out)
        have BAT := hide (box_kept BA.out gt)
        clear hr2 e0 gt ac j1 j2 j3 kc hgc nl zp2 sz2 sz3
        go_wp2_with fail
        rw [← hwT]
        clear hwT n0 n1 n2 n3 n4 x0 x1 x2
        refine E1.out.mono ?_
        intro e w4 hq
        obtain ⟨hg4, ⟨ba, bn, bc⟩, ⟨bd, bm, bk⟩, rfl, ib, jb⟩ := do_any hq
        simp only
        obtain ⟨p4, hp4⟩ : ∃ W, W = w4.alloc (.cells #[.int .i64 (rTy r2), .slice ba bn bc, .slice bd bm bk] 32) := ⟨_, rfl⟩
        have bp4 := heap_alloc_new w4 (.cells #[.int .i64 (rTy r2), .slice ba bn bc, .slice bd bm bk] 32)
        rw [← hp4] at bp4
        have gp4 : w4.grownBy p4 none := by rw [hp4]; exact grown_new _ _
        have G4 := hide (grown_trans GT.out (grown_trans hg4 gp4))
        have G40 := hide (grown_trans GT0.out (grown_trans hg4 gp4))
        have LA4 := hide (LA.out p4 (grown_after GA.out (grown_trans hg4 gp4)))
        have BA4 := hide (box_kept BAT.out (grown_trans hg4 gp4))
        have IB := hide (ib.more gp4)
        have JB := hide (jb.more gp4)
        have BB := hide bp4
        have zp4 : p4.heap.size = w4.heap.size + 1 := by rw [hp4]; simp
        have L4 := hide (LV.out p4 G4.out)
        clear hq hg4 gp4 bp4 E1 ib jb LA GA BAT L1
        rw [hp4] at L4
        have GF := hide G4.out
        rw [hp4] at GF
        cases r1 with
        | error c =>
          have hc0 : (rC (Except.error c : R (Int × List Int × List Int)) != 0) = true := by
            have hn : c ≠ 0 := nz_slG _ _ _ _ c HR1.out.symm
            simpa [rC] using hn
          go_wp2_with fail
          refine L4.out.mono ?_
          rintro e u4 ⟨rfl, hg4⟩
          go_wp2
          go_ret
          exact ⟨rfl, grown_below (grown_trans GF.out hg4)⟩
        | ok rr1 =>
          obtain ⟨t1, l1, z1⟩ := rr1
          have hc1 : (rC (Except.ok (t1, l1, z1) : R (Int × List Int × List Int)) != 0) = false := rfl
          cases r2 with
          | error c =>
            have hc0 : (rC (Except.error c : R (Int × List Int × List Int)) != 0) = true := by
              have hn : c ≠ 0 := nz_slG _ _ _ _ c HR2.out.symm
              simpa [rC] using hn
            go_wp2_with fail
            refine L4.out.mono ?_
            rintro e u4 ⟨rfl, hg4⟩
            go_wp2
            go_ret
            exact ⟨rfl, grown_below (grown_trans GF.out hg4)⟩
          | ok rr2 =>
            obtain ⟨t2, l2, z2⟩ := rr2
            have hc2 : (rC (Except.ok (t2, l2, z2) : R (Int × List Int × List Int)) != 0) = false := rfl
            have JA := hide (joined_answer HR1.out.symm HR2.out.symm)
            obtain ⟨wa, hwa⟩ : ∃ wa, wa = ((p4.alloc (.cells #[.string ⟨#[120]⟩, .string ⟨#[121]⟩] 9)).alloc (.cells #[.string ⟨#[97, 120, 105, 115]⟩, .int .i64 2, .int .i64 0, .int .i64 axis, .string ⟨#[]⟩, .int .i64 0, .slice none 0 0, .slice none 0 0, .slice none 0 0] 41)).alloc (.cells #[.string ⟨#[67, 111, 110, 99, 97, 116]⟩, .string ⟨#[]⟩, .slice (some ⟨w4.heap.size + 1, 0, none⟩) 2 2, .string ⟨#[122]⟩, .slice (some ⟨w4.heap.size + 1 + 1, 0, none⟩) 1 1] 25) := ⟨_, rfl⟩
            obtain ⟨c0, c1, c2⟩ := three_boxes p4 (.cells #[.string ⟨#[120]⟩, .string ⟨#[121]⟩] 9) (.cells #[.string ⟨#[97, 120, 105, 115]⟩, .int .i64 2, .int .i64 0, .int .i64 axis, .string ⟨#[]⟩, .int .i64 0, .slice none 0 0, .slice none 0 0, .slice none 0 0] 41) (.cells #[.string ⟨#[67, 111, 110, 99, 97, 116]⟩, .string ⟨#[]⟩, .slice (some ⟨w4.heap.size + 1, 0, none⟩) 2 2, .string ⟨#[122]⟩, .slice (some ⟨w4.heap.size + 1 + 1, 0, none⟩) 1 1] 25)
            rw [← hwa, zp4] at c0 c1 c2
            have ga4 : p4.grownBy wa none := by rw [hwa]; exact grown_trans (grown_trans (grown_new _ _) (grown_new _ _)) (grown_new _ _)
            have za : wa.heap.size = w4.heap.size + 1 + 1 + 1 + 1 := by rw [hwa]; simp [zp4]
            obtain ⟨wT6, hwT6⟩ : ∃ wT, wT = wa.alloc (.cells #[.int .i64 (rTy (Except.ok (t1, l1, z1) : R (Int × List Int × List Int))), .slice aa an ac, .slice ad am ak, .int .i64 (rTy (Except.ok (t2, l2, z2) : R (Int × List Int × List Int))), .slice ba bn bc, .slice bd bm bk] 32) := ⟨_, rfl⟩
            have e0 := heap_alloc_new wa (.cells #[.int .i64 (rTy (Except.ok (t1, l1, z1) : R (Int × List Int × List Int))), .slice aa an ac, .slice ad am ak, .int .i64 (rTy (Except.ok (t2, l2, z2) : R (Int × List Int × List Int))), .slice ba bn bc, .slice bd bm bk] 32)
            rw [← hwT6, za] at e0
            have gt6 : wa.grownBy wT6 none := by rw [hwT6]; exact grown_new _ _
            have G6 := hide (grown_trans G4.out (grown_trans ga4 gt6))
            have G60 := hide (grown_trans G40.out (grown_trans ga4 gt6))
            have g46 := grown_trans ga4 gt6
            have AT := ax_attrs (box_kept c1 gt6)
            have E3 := hide (cat_do ⟨⟨#[67, 111, 110, 99, 97, 116]⟩, ⟨#[]⟩, ⟨some ⟨w4.heap.size + 1, 0, none⟩, 2, 2⟩, ⟨#[122]⟩, ⟨some ⟨w4.heap.size + 1 + 1, 0, none⟩, 1, 1⟩⟩ (axAt ⟨#[67, 111, 110, 99, 97, 116]⟩ axis) ⟨#[120]⟩ ⟨#[121]⟩ rfl ⟨some ⟨w4.heap.size + 1 + 1 + 1 + 1, 0, none⟩, 2, 2⟩ ⟨t1, ⟨aa, an, ac⟩, ⟨ad, am, ak⟩⟩ ⟨t2, ⟨ba, bn, bc⟩, ⟨bd, bm, bk⟩⟩ l1 l2 z1 z2 wT6 (HL.out.more G6.out) (ax_in (xy_strs (box_kept c0 gt6)) AT) (ax_ok ha1 ha2 AT) (cat_check _) (ax_then _ _) (by show 1 ≤ 1048576; omega) (two_tens _ _ e0 (LA4.out.1.more g46) (LA4.out.2.more g46) (IB.out.more g46) (JB.out.more g46)) (by rw [ax_int]; exact ha1))
            rw [JA.out] at E3
            unfold nval at E3
            simp only at E3
            obtain ⟨n0, n1, n2, n3, n4⟩ := five_cells c2
            obtain ⟨a0, a1, a2⟩ := ten_cells (box_kept BA4.out ga4)
            obtain ⟨b0, b1, b2⟩ := ten_cells (box_kept BB.out ga4)
            rw [hwa, hp4] at n0 n1 n2 n3 n4 a0 a1 a2 b0 b1 b2
            clear c0 c1 c2 e0 ga4 gt6 g46 AT JA zp4 za
            go_wp2_with fail
            rw [← hp4, ← hwa, ← hwT6]
            clear hp4 hwa hwT6 n0 n1 n2 n3 n4 a0 a1 a2 b0 b1 b2 L4 GF
            refine E3.out.mono ?_
            rintro e w6 ⟨hg6, ⟨ty6, ⟨ca, cn, cc⟩, ⟨va, vn, vc⟩⟩, ht, rfl, od, ot⟩
            simp only at ht
            subst ht
            unfold tval
            simp only
            obtain ⟨p6, hp6⟩ : ∃ W, W = w6.alloc (.cells #[.int .i64 ty6, .slice ca cn cc, .slice va vn vc] 32) := ⟨_, rfl⟩
            have bp6 := heap_alloc_new w6 (.cells #[.int .i64 ty6, .slice ca cn cc, .slice va vn vc] 32)
            rw [← hp6] at bp6
            have gp6 : w6.grownBy p6 none := by rw [hp6]; exact grown_new _ _
            have GZ := hide (grown_trans G6.out (grown_trans hg6 gp6))
            have SA := hide (sameten_eq ty6 _ _ _ _ x xs p6 (od.ints.more gp6) (ot.ints.more gp6) (HX.out.more GZ.out) (HXS.out.more GZ.out))
            simp only [Sl.v] at SA
            obtain ⟨x0, x1, x2⟩ := ten_cells (BX.out p6 (grown_trans G60.out (grown_trans hg6 gp6)))
            obtain ⟨y0, y1, y2⟩ := ten_cells bp6
            rw [hp6] at x0 x1 x2 y0 y1 y2
            clear bp6 gp6 hg6 od ot E3
            go_wp2_with (first | (go_at_call 12; rw [← hp6]; refine SA.out.mono ?_; rintro e w7 ⟨rfl, hg7⟩; have L7 := hide (LV.out w7 (grown_trans GZ.out hg7))) | fail)
            refine L7.out.mono ?_
            rintro e w8 ⟨rfl, hg8⟩
            go_wp2
            go_ret
            exact ⟨rfl, grown_below (grown_trans (grown_trans GZ.out hg7) hg8)⟩

end Go.Proofs.YtaoplfpigjkgpaaGreatDoor
