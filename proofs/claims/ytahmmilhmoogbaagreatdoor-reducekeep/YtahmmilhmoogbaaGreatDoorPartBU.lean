/- Joined texts: LRKeepW. -/
import Derived.Test.YtahmmilhmoogbaaGreatDoorPartBT
import Derived.Deep.Cut
import Derived.Deep.RegionHeld3
namespace Go.Proofs.YtahmmilhmoogbaaGreatDoor

open Go.RowKit

theorem with_node {N R : Prop} (h : N → R) (n : N) : R := h n

theorem do_pastR {w w' : World} {r : R (Int × List Int × List Int)} {e : Ending} (h : DoQ w r e w') : w.grownBy w' none ∧ ∃ d t : Sl, e = .returned (.tuple #[.agg #[.int .i64 (rTy r), .slice d.a d.n d.c, .slice t.a t.n t.c], .int .i64 (rC r)]) ∧ ∀ C wx, C < w.heap.size → w'.grownBy wx (some C) → IsInts wx d.v (rL r) ∧ IsInts wx t.v (rZ r) := by
  obtain ⟨hg, h⟩ := h
  refine ⟨hg, ?_⟩
  cases r with
  | error c => exact ⟨⟨none, 0, 0⟩, ⟨none, 0, 0⟩, h, fun C wx _ _ => ⟨(owns_nil wx 0).ints, (owns_nil wx 0).ints⟩⟩
  | ok rr =>
    obtain ⟨ty, l, zs⟩ := rr
    obtain ⟨⟨ty', d, t⟩, e1, e2, od, ot⟩ := h
    simp only at e1
    subst e1
    refine ⟨d, t, e2, fun C wx hC hx => ⟨Owns.ints ⟨od.1.kept hx ?_, od.2⟩, OwnsE.ints ⟨ot.1.kept hx ?_, ot.2⟩⟩⟩
    · cases e : d.v.ownBlock with
      | none => exact .inl rfl
      | some k => exact .inr (fun e2 => by have := (od.1.lt k e).1; cases e2; omega)
    · cases e : t.v.ownBlock with
      | none => exact .inl rfl
      | some k => exact .inr (fun e2 => by have := (ot.1.lt k e).1; cases e2; omega)

def NodeD (op : ByteArray) (t : Int) (x xs : List Int) (r : R (Int × List Int × List Int)) (iv av : Sl) (w' : World) : Prop :=
  ∀ (wx : World) (u : Sl) (T0 : Ten), T0.ty = t → w'.grownBy wx none → TensIn wx u.v [(T0, (x, xs))] → Calls Tryz.prog 9 #[.agg #[.string op, .string ⟨#[]⟩, .slice iv.a iv.n iv.c, .string ⟨#[122]⟩, .slice av.a av.n av.c], .slice u.a u.n u.c] wx (DoQ wx r)

theorem NodeD.more {op : ByteArray} {t : Int} {x xs : List Int} {r : R (Int × List Int × List Int)} {iv av : Sl} {w w' : World} (h : NodeD op t x xs r iv av w) (hg : w.grownBy w' none) : NodeD op t x xs r iv av w' := fun wx u T0 ht hx hv => h wx u T0 ht (grown_trans hg hx) hv

theorem ops_cells {w : World} {B : Nat} (h : w.heap[B]? = some (.cells #[.string ⟨#[82, 101, 100, 117, 99, 101, 83, 117, 109]⟩, .string ⟨#[82, 101, 100, 117, 99, 101, 77, 97, 120]⟩, .string ⟨#[82, 101, 100, 117, 99, 101, 77, 101, 97, 110]⟩, .string ⟨#[65, 114, 103, 77, 97, 120]⟩] 9 (0, 0))) : ∀ q : Nat, q < 4 → w.cell? ⟨B, q, none⟩ = some (.string (opsK.getD q ⟨#[]⟩))
  | 0, _ => (cell_of_row _ _ 0 _ _ (0, 0) h).trans rfl
  | 1, _ => (cell_of_row _ _ 1 _ _ (0, 0) h).trans rfl
  | 2, _ => (cell_of_row _ _ 2 _ _ (0, 0) h).trans rfl
  | 3, _ => (cell_of_row _ _ 3 _ _ (0, 0) h).trans rfl
  | q + 4, hq => by omega

set_option maxRecDepth 100000 in
set_option maxHeartbeats 16000000 in
theorem reduceKeep_walk (X : Ten) {x xs : List Int} (op axis : Int) (w : World) (hl : Laid w) (hx : IsInts w X.dv.v x) (hxs : IsInts w X.tv.v xs) (hop1 : -9223372036854775808 ≤ op) (hop2 : op ≤ 9223372036854775807) (ha1 : -9223372036854775808 ≤ axis) (ha2 : axis ≤ 9223372036854775807) : Calls Tryz.prog 6 #[tval X, .int .i64 op, .int .i64 axis] w fun e w' => e = .returned (.bool true) ∧ Below w.heap.size w w' := by
  have HL := hide hl
  have HX := hide hx
  have HXS := hide hxs
  obtain ⟨_, _, ex, -⟩ := hx.sl
  clear hl hx hxs
  obtain ⟨tx, ⟨xa, xn, xc⟩, ⟨ua, un, uc⟩⟩ := X
  simp only [Sl.v, Value.slice.injEq] at ex
  obtain ⟨-, rfl, -⟩ := ex
  unfold tval
  simp only [Sl.v] at HX HXS ⊢
  obtain ⟨w0, hw0⟩ : ∃ w0, w0 = w.alloc (.cells #[.int .i64 tx, .slice xa x.length xc, .slice ua un uc] 25) := ⟨_, rfl⟩
  obtain ⟨hbx, Z0⟩ := new_alloc (.cells #[.int .i64 tx, .slice xa x.length xc, .slice ua un uc] 25) (x := w) rfl
  rw [← hw0] at hbx Z0
  have g0 : w.grownBy w0 none := by rw [hw0]; exact grown_new _ _
  have BX : Hid (∀ wx, w0.grownBy wx none → wx.heap[w.heap.size]? = some (.cells #[.int .i64 tx, .slice xa x.length xc, .slice ua un uc] 25 (0, 0))) := fun wx hx => box_kept hbx hx
  have LV : Hid (∀ wx, w.grownBy wx none → Calls Tryz.prog 8 #[] wx fun e w' => e = .returned (.bool true) ∧ wx.grownBy w' none) := fun wx hx => live11_any wx (HL.out.more hx)
  obtain ⟨wS, hwS⟩ : ∃ wS, wS = w0.alloc (.cells #[.int .i64 tx, .slice xa x.length xc, .slice ua un uc] 25) := ⟨_, rfl⟩
  obtain ⟨bS, -⟩ := new_alloc (.cells #[.int .i64 tx, .slice xa x.length xc, .slice ua un uc] 25) Z0
  rw [← hwS] at bS
  have gS : w0.grownBy wS none := by rw [hwS]; exact grown_new _ _
  have GS := hide (grown_trans g0 gS)
  have GS0 := hide gS
  have SM := hide (small11_any ⟨some ⟨w.heap.size + 1, 0, none⟩, 1, 1⟩ _ wS (one_ten ⟨tx, ⟨xa, x.length, xc⟩, ⟨ua, un, uc⟩⟩ bS (HX.out.more GS.out) (HXS.out.more GS.out)))
  simp only at SM
  obtain ⟨x0, x1, x2⟩ := ten_cells hbx
  rw [hw0] at x0 x1 x2
  have G0 := hide g0
  clear hbx bS Z0 g0 gS
  go_enter Tryz.func6, Tryz.ntmps6
  go_wp2_with fail
  rw [← hw0, ← hwS]
  clear hw0 hwS x0 x1 x2
  refine SM.out.mono ?_
  rintro e w1 ⟨bb, rfl, hg1⟩
  have G1 := hide (grown_trans GS.out hg1)
  have G01 := hide (grown_trans GS0.out hg1)
  have L1 := hide (LV.out w1 G1.out)
  obtain ⟨x0, x1, x2⟩ := ten_cells (BX.out w1 G01.out)
  clear hg1 SM
  cases bb with
  | false =>
    go_wp2_with fail
    refine L1.out.mono ?_
    rintro e w2 ⟨rfl, hg2⟩
    go_wp2
    go_ret
    exact ⟨rfl, grown_below (grown_trans G1.out hg2)⟩
  | true =>
    obtain ⟨Rw, hR0, hR1, hR2⟩ : ∃ Rw : Int, 0 ≤ Rw ∧ Rw ≤ 9223372036854775807 ∧ ((op < 0 ∧ wrap64 (op + 1) = op + 1 ∧ wrap64 (-(op + 1)) = Rw) ∨ (¬ op < 0 ∧ op = Rw)) := by
      by_cases h : op < 0
      · exact ⟨-(op + 1), by omega, by omega, .inl ⟨h, by unfold wrap64; omega, by unfold wrap64; omega⟩⟩
      · exact ⟨op, by omega, by omega, .inr ⟨h, rfl⟩⟩
    obtain ⟨q, hq⟩ : ∃ q : Nat, (q : Int) = Rw % 4 := ⟨(Rw % 4).toNat, by omega⟩
    have hq4 : q < 4 := by omega
    have rm1 : Rw % 4 = (q : Int) := hq.symm
    have rm2 : Rw.tmod 4 = (q : Int) := by rw [Int.tmod_eq_emod_of_nonneg hR0]; exact hq.symm
    have HRR := hide hR2
    obtain ⟨r0, r1, hKP, hKA⟩ := keep_any q hq4 tx axis x xs ⟨ha1, ha2⟩ w HL.out
    have HK := hide hKP
    obtain ⟨w2, hw2⟩ : ∃ w2, w2 = w1.alloc (.cells #[.string ⟨#[82, 101, 100, 117, 99, 101, 83, 117, 109]⟩, .string ⟨#[82, 101, 100, 117, 99, 101, 77, 97, 120]⟩, .string ⟨#[82, 101, 100, 117, 99, 101, 77, 101, 97, 110]⟩, .string ⟨#[65, 114, 103, 77, 97, 120]⟩] 9) := ⟨_, rfl⟩
    have hb2 := heap_alloc_new w1 (.cells #[.string ⟨#[82, 101, 100, 117, 99, 101, 83, 117, 109]⟩, .string ⟨#[82, 101, 100, 117, 99, 101, 77, 97, 120]⟩, .string ⟨#[82, 101, 100, 117, 99, 101, 77, 101, 97, 110]⟩, .string ⟨#[65, 114, 103, 77, 97, 120]⟩] 9)
    rw [← hw2] at hb2
    have g2 : w1.grownBy w2 none := by rw [hw2]; exact grown_new _ _
    have oc := ops_cells hb2 q hq4
    obtain ⟨o, ho⟩ : ∃ o, o = opsK.getD q ⟨#[]⟩ := ⟨_, rfl⟩
    rw [← ho] at oc hKA
    have GR := hide (grown_trans G1.out g2)
    have GR0 := hide (grown_trans G01.out g2)
    have KA0 : Hid (∀ v, w2.grownBy v none → Calls Tryz.prog 10 #[.string o, .int .i64 axis, .int .i64 0] v (NodeQ o tx x xs r0 v)) := fun v hv => (hKA v (grown_trans GR.out hv)).1
    have KA1 : Hid (∀ v, w2.grownBy v none → Calls Tryz.prog 10 #[.string o, .int .i64 axis, .int .i64 1] v (NodeQ o tx x xs r1 v)) := fun v hv => (hKA v (grown_trans GR.out hv)).2
    have lq : (q : Int) < 4 := by omega
    clear hR0 hR1 hR2 hq hKP hKA hb2 g2 ho hop1 hop2 ha1 ha2 L1 x0 x1 x2
    go_upto_if 21 with fail
    rw [← hw2]
    clear hw2
    go_cut [1] from 22 to 25 (fun v wx => v = .int .i64 Rw ∧ wx = w2)
    case first =>
      rcases HRR.out with ⟨h1, h2, h3⟩ | ⟨h1, h2⟩
      · go_wp2_with fail
        go_meet
        exact ⟨by rw [h3], rfl⟩
      · subst h2
        go_wp2_with fail
        go_meet
        exact ⟨rfl, rfl⟩
    case rest =>
    obtain ⟨rfl, hwc⟩ := hcut
    have hwc2 := hwc.symm
    subst hwc2
    obtain ⟨x0, x1, x2⟩ := ten_cells (BX.out w2 GR0.out)
    go_upto_region 7 with fail
    clear oc rm1 rm2 lq HRR
    go_cut [9, 10] from 30 to 39 (fun t5 t6 wx => w2.grownBy wx none ∧ ∃ (B : Nat) (dv tv : Sl), t5 = .pointer (some ⟨B, 0, none⟩) ∧ t6 = .int .i64 (rC r0) ∧ w2.heap.size ≤ B ∧ wx.heap[B]? = some (.cells #[.int .i64 (rTy r0), .slice dv.a dv.n dv.c, .slice tv.a tv.n tv.c] 25 (0, 0)) ∧ IsInts wx dv.v (rL r0) ∧ IsInts wx tv.v (rZ r0))
    case first =>
      refine wp_region_held_drew (S := fun w' => w2.grownBy w' none) (by kernel_rfl) (grown_drew (grown_refl _)) (fun _ => ?_)
      refine' with_node (N := ∀ (v : World) (ia : Option Addr) (il : Nat) (ic : Nat) (aa : Option Addr) (al : Nat) (ac : Nat) (b4 : Nat) (b9 : Nat), w2.grownBy v none → NodeD o tx x xs r0 ⟨ia, il, ic⟩ ⟨aa, al, ac⟩ v → v.heap[b4]? = some (.cells #[.int .i64 tx, .slice xa x.length xc, .slice ua un uc] 25 (0, 0)) → v.heap[b9]? = some (.cells #[.int .i64 0, .slice none 0 0, .slice none 0 0] 25 (0, 0)) → w2.heap.size ≤ b9 → (_ : World → Option Addr → Nat → Nat → Option Addr → Nat → Nat → Nat → Nat → Prop) v ia il ic aa al ac b4 b9) (fun N2_4_9 => ?_) ?_
      rotate_left 1
      refine' with_node (N := ∀ (v : World) (ia : Option Addr) (il : Nat) (ic : Nat) (aa : Option Addr) (al : Nat) (ac : Nat) (b4 : Nat), w2.grownBy v none → NodeD o tx x xs r0 ⟨ia, il, ic⟩ ⟨aa, al, ac⟩ v → v.heap[b4]? = some (.cells #[.int .i64 tx, .slice xa x.length xc, .slice ua un uc] 25 (0, 0)) → (_ : World → Option Addr → Nat → Nat → Option Addr → Nat → Nat → Nat → Prop) v ia il ic aa al ac b4) (fun N2_4 => ?_) ?_
      rotate_left 1
      refine' with_node (N := ∀ (v : World) (ia : Option Addr) (il : Nat) (ic : Nat) (aa : Option Addr) (al : Nat) (ac : Nat) (b9 : Nat), w2.grownBy v none → NodeD o tx x xs r0 ⟨ia, il, ic⟩ ⟨aa, al, ac⟩ v → v.heap[b9]? = some (.cells #[.int .i64 0, .slice none 0 0, .slice none 0 0] 25 (0, 0)) → w2.heap.size ≤ b9 → (_ : World → Option Addr → Nat → Nat → Option Addr → Nat → Nat → Nat → Prop) v ia il ic aa al ac b9) (fun N2_9 => ?_) ?_
      rotate_left 1
      refine' with_node (N := ∀ (v : World) (b4 : Nat) (b9 : Nat), w2.grownBy v none → v.heap[b4]? = some (.cells #[.int .i64 tx, .slice xa x.length xc, .slice ua un uc] 25 (0, 0)) → v.heap[b9]? = some (.cells #[.int .i64 0, .slice none 0 0, .slice none 0 0] 25 (0, 0)) → w2.heap.size ≤ b9 → (_ : World → Nat → Nat → Prop) v b4 b9) (fun N4_9 => ?_) ?_
      rotate_left 1
      refine' with_node (N := ∀ (v : World) (ia : Option Addr) (il : Nat) (ic : Nat) (aa : Option Addr) (al : Nat) (ac : Nat), w2.grownBy v none → NodeD o tx x xs r0 ⟨ia, il, ic⟩ ⟨aa, al, ac⟩ v → (_ : World → Option Addr → Nat → Nat → Option Addr → Nat → Nat → Prop) v ia il ic aa al ac) (fun N2 => ?_) ?_
      rotate_left 1
      refine' with_node (N := ∀ (v : World) (b4 : Nat), w2.grownBy v none → v.heap[b4]? = some (.cells #[.int .i64 tx, .slice xa x.length xc, .slice ua un uc] 25 (0, 0)) → (_ : World → Nat → Prop) v b4) (fun N4 => ?_) ?_
      rotate_left 1
      refine' with_node (N := ∀ (v : World) (b9 : Nat), w2.grownBy v none → v.heap[b9]? = some (.cells #[.int .i64 0, .slice none 0 0, .slice none 0 0] 25 (0, 0)) → w2.heap.size ≤ b9 → (_ : World → Nat → Prop) v b9) (fun N9 => ?_) ?_
      rotate_left 1
      · have g : w2.grownBy w2.drew none := grown_drew (grown_refl _)
        generalize hv : w2.drew = v at g ⊢
        clear hv
        refine wpAnyH_take (i := 0) (v := ?_) rfl (by kernel_rfl) (by kernel_rfl) (by kernel_rfl) (fun _ _ _ h => h) (Or.inl ⟨by kernel_rfl, ?_⟩) (by assumption) ?_
        rotate_left 1
        · (intro wS hSw; go_simp; (try with_reducible rfl))
        try simp only [Act.put]
        refine wpAnyH_take (i := 1) (v := ?_) rfl (by kernel_rfl) (by kernel_rfl) (by kernel_rfl) (fun _ _ _ h => h) (Or.inl ⟨by kernel_rfl, ?_⟩) (by assumption) ?_
        rotate_left 1
        · (intro wS hSw; go_simp; (try with_reducible rfl))
        try simp only [Act.put]
        refine wpAnyH_take (i := 3) (v := ?_) rfl (by kernel_rfl) (by kernel_rfl) (by kernel_rfl) (fun _ _ _ h => h) (Or.inl ⟨by kernel_rfl, ?_⟩) (by assumption) ?_
        rotate_left 1
        · (intro wS hSw; have c0 := cell_still x0 hSw; have c1 := cell_still x1 hSw; have c2 := cell_still x2 hSw; go_simp; (try with_reducible rfl))
        try simp only [Act.put]
        refine wpAnyH_ready (rs := [2, 4, 9]) (by kernel_rfl) (by simp) ?_
        refine AllReadyH.cons rfl (fun K hK => ?_) ?_
        · go_simp
          refine (KA0.out v g).mono ?_
          rintro e u ⟨⟨ia, il, ic⟩, ⟨aa, al, ac⟩, rfl, gs, h2⟩
          replace h2 : NodeD o tx x xs r0 ⟨ia, il, ic⟩ ⟨aa, al, ac⟩ u := h2
          simp only
          have gn := grown_trans g gs
          refine hK.out _ _ gn (fun hHeld => ?_)
          clear hK K
          try simp only [Act.put]
          clear g gs hHeld
          exact N2 u ia il ic aa al ac gn h2
        refine AllReadyH.cons rfl (fun K hK => ?_) ?_
        · go_simp
          have h4 := heap_alloc_new v (.cells #[.int .i64 tx, .slice xa x.length xc, .slice ua un uc] 25)
          have gs := grown_new v (.cells #[.int .i64 tx, .slice xa x.length xc, .slice ua un uc] 25)
          generalize hvn : v.alloc (.cells #[.int .i64 tx, .slice xa x.length xc, .slice ua un uc] 25) = u at h4 gs ⊢
          clear hvn
          generalize v.heap.size = b4 at h4 ⊢
          have gn := grown_trans g gs
          refine hK.out _ _ gn (fun hHeld => ?_)
          clear hK K
          try simp only [Act.put]
          clear g gs hHeld
          exact N4 u b4 gn h4
        refine AllReadyH.cons rfl (fun K hK => ?_) ?_
        · have hb9 := g.size
          go_simp
          have h9 := heap_alloc_new v (.cells #[.int .i64 0, .slice none 0 0, .slice none 0 0] 25)
          have gs := grown_new v (.cells #[.int .i64 0, .slice none 0 0, .slice none 0 0] 25)
          generalize hvn : v.alloc (.cells #[.int .i64 0, .slice none 0 0, .slice none 0 0] 25) = u at h9 gs ⊢
          clear hvn
          generalize v.heap.size = b9 at h9 hb9 ⊢
          have gn := grown_trans g gs
          refine hK.out _ _ gn (fun hHeld => ?_)
          clear hK K
          try simp only [Act.put]
          clear g gs hHeld
          exact N9 u b9 gn h9 hb9
        exact AllReadyH.nil
      · intro v b9 g h9 hb9
        refine wpAnyH_ready (rs := [2, 4]) (by kernel_rfl) (by simp) ?_
        refine AllReadyH.cons rfl (fun K hK => ?_) ?_
        · go_simp
          refine (KA0.out v g).mono ?_
          rintro e u ⟨⟨ia, il, ic⟩, ⟨aa, al, ac⟩, rfl, gs, h2⟩
          replace h2 : NodeD o tx x xs r0 ⟨ia, il, ic⟩ ⟨aa, al, ac⟩ u := h2
          simp only
          have gn := grown_trans g gs
          refine hK.out _ _ gn (fun hHeld => ?_)
          clear hK K
          try simp only [Act.put]
          have h9 := box_kept h9 gs
          clear g gs hHeld
          exact N2_9 u ia il ic aa al ac b9 gn h2 h9 hb9
        refine AllReadyH.cons rfl (fun K hK => ?_) ?_
        · go_simp
          have h4 := heap_alloc_new v (.cells #[.int .i64 tx, .slice xa x.length xc, .slice ua un uc] 25)
          have gs := grown_new v (.cells #[.int .i64 tx, .slice xa x.length xc, .slice ua un uc] 25)
          generalize hvn : v.alloc (.cells #[.int .i64 tx, .slice xa x.length xc, .slice ua un uc] 25) = u at h4 gs ⊢
          clear hvn
          generalize v.heap.size = b4 at h4 ⊢
          have gn := grown_trans g gs
          refine hK.out _ _ gn (fun hHeld => ?_)
          clear hK K
          try simp only [Act.put]
          have h9 := box_kept h9 gs
          clear g gs hHeld
          exact N4_9 u b4 b9 gn h4 h9 hb9
        exact AllReadyH.nil
      · intro v b4 g h4
        refine wpAnyH_ready (rs := [2, 9]) (by kernel_rfl) (by simp) ?_
        refine AllReadyH.cons rfl (fun K hK => ?_) ?_
        · go_simp
          refine (KA0.out v g).mono ?_
          rintro e u ⟨⟨ia, il, ic⟩, ⟨aa, al, ac⟩, rfl, gs, h2⟩
          replace h2 : NodeD o tx x xs r0 ⟨ia, il, ic⟩ ⟨aa, al, ac⟩ u := h2
          simp only
          have gn := grown_trans g gs
          refine hK.out _ _ gn (fun hHeld => ?_)
          clear hK K
          try simp only [Act.put]
          have h4 := box_kept h4 gs
          clear g gs hHeld
          exact N2_4 u ia il ic aa al ac b4 gn h2 h4
        refine AllReadyH.cons rfl (fun K hK => ?_) ?_
        · have hb9 := g.size
          go_simp
          have h9 := heap_alloc_new v (.cells #[.int .i64 0, .slice none 0 0, .slice none 0 0] 25)
          have gs := grown_new v (.cells #[.int .i64 0, .slice none 0 0, .slice none 0 0] 25)
          generalize hvn : v.alloc (.cells #[.int .i64 0, .slice none 0 0, .slice none 0 0] 25) = u at h9 gs ⊢
          clear hvn
          generalize v.heap.size = b9 at h9 hb9 ⊢
          have gn := grown_trans g gs
          refine hK.out _ _ gn (fun hHeld => ?_)
          clear hK K
          try simp only [Act.put]
          have h4 := box_kept h4 gs
          clear g gs hHeld
          refine cast ?_ (N4_9 u b4 b9 gn h4 h9 hb9)
          kernel_rfl
        exact AllReadyH.nil
      · intro v ia il ic aa al ac g h2
        refine wpAnyH_ready (rs := [4, 9]) (by kernel_rfl) (by simp) ?_
        refine AllReadyH.cons rfl (fun K hK => ?_) ?_
        · go_simp
          have h4 := heap_alloc_new v (.cells #[.int .i64 tx, .slice xa x.length xc, .slice ua un uc] 25)
          have gs := grown_new v (.cells #[.int .i64 tx, .slice xa x.length xc, .slice ua un uc] 25)
          generalize hvn : v.alloc (.cells #[.int .i64 tx, .slice xa x.length xc, .slice ua un uc] 25) = u at h4 gs ⊢
          clear hvn
          generalize v.heap.size = b4 at h4 ⊢
          have gn := grown_trans g gs
          refine hK.out _ _ gn (fun hHeld => ?_)
          clear hK K
          try simp only [Act.put]
          have h2 := h2.more gs
          clear g gs hHeld
          refine cast ?_ (N2_4 u ia il ic aa al ac b4 gn h2 h4)
          kernel_rfl
        refine AllReadyH.cons rfl (fun K hK => ?_) ?_
        · have hb9 := g.size
          go_simp
          have h9 := heap_alloc_new v (.cells #[.int .i64 0, .slice none 0 0, .slice none 0 0] 25)
          have gs := grown_new v (.cells #[.int .i64 0, .slice none 0 0, .slice none 0 0] 25)
          generalize hvn : v.alloc (.cells #[.int .i64 0, .slice none 0 0, .slice none 0 0] 25) = u at h9 gs ⊢
          clear hvn
          generalize v.heap.size = b9 at h9 hb9 ⊢
          have gn := grown_trans g gs
          refine hK.out _ _ gn (fun hHeld => ?_)
          clear hK K
          try simp only [Act.put]
          have h2 := h2.more gs
          clear g gs hHeld
          refine cast ?_ (N2_9 u ia il ic aa al ac b9 gn h2 h9 hb9)
          kernel_rfl
        exact AllReadyH.nil
      · intro v b4 b9 g h4 h9 hb9
        refine wpAnyH_ready (rs := [2]) (by kernel_rfl) (by simp) ?_
        refine AllReadyH.cons rfl (fun K hK => ?_) ?_
        · go_simp
          refine (KA0.out v g).mono ?_
          rintro e u ⟨⟨ia, il, ic⟩, ⟨aa, al, ac⟩, rfl, gs, h2⟩
          replace h2 : NodeD o tx x xs r0 ⟨ia, il, ic⟩ ⟨aa, al, ac⟩ u := h2
          simp only
          have gn := grown_trans g gs
          refine hK.out _ _ gn (fun hHeld => ?_)
          clear hK K
          try simp only [Act.put]
          have h4 := box_kept h4 gs
          have h9 := box_kept h9 gs
          clear g gs hHeld
          exact N2_4_9 u ia il ic aa al ac b4 b9 gn h2 h4 h9 hb9
        exact AllReadyH.nil
      · intro v ia il ic aa al ac b9 g h2 h9 hb9
        refine wpAnyH_ready (rs := [4]) (by kernel_rfl) (by simp) ?_
        refine AllReadyH.cons rfl (fun K hK => ?_) ?_
        · go_simp
          have h4 := heap_alloc_new v (.cells #[.int .i64 tx, .slice xa x.length xc, .slice ua un uc] 25)
          have gs := grown_new v (.cells #[.int .i64 tx, .slice xa x.length xc, .slice ua un uc] 25)
          generalize hvn : v.alloc (.cells #[.int .i64 tx, .slice xa x.length xc, .slice ua un uc] 25) = u at h4 gs ⊢
          clear hvn
          generalize v.heap.size = b4 at h4 ⊢
          have gn := grown_trans g gs
          refine hK.out _ _ gn (fun hHeld => ?_)
          clear hK K
          try simp only [Act.put]
          have h2 := h2.more gs
          have h9 := box_kept h9 gs
          clear g gs hHeld
          refine cast ?_ (N2_4_9 u ia il ic aa al ac b4 b9 gn h2 h4 h9 hb9)
          kernel_rfl
        exact AllReadyH.nil
      · intro v ia il ic aa al ac b4 g h2 h4
        refine wpAnyH_ready (rs := [5, 9]) (by kernel_rfl) (by simp) ?_
        refine AllReadyH.cons rfl (fun K hK => ?_) ?_
        · go_simp
          refine (h2 v ⟨some ⟨b4, 0, none⟩, 1, 1⟩ ⟨tx, ⟨xa, x.length, xc⟩, ⟨ua, un, uc⟩⟩ rfl (grown_refl _) (one_ten _ h4 (HX.out.more (grown_trans GR.out g)) (HXS.out.more (grown_trans GR.out g)))).mono ?_
          intro e u hq
          obtain ⟨hgd, ⟨na, nn, nc⟩, ⟨nd, nm, nk⟩, rfl, hla⟩ := do_pastR hq
          have gn := grown_trans g hgd
          refine hK.out _ _ gn (fun hHeld => ?_)
          clear hK K
          try simp only
          skip
          refine wpAnyH_take (i := 6) (v := ?_) rfl (by kernel_rfl) (by kernel_rfl) (by kernel_rfl) (fun _ _ _ h => h) (Or.inl ⟨by kernel_rfl, ?_⟩) (by assumption) ?_
          rotate_left 1
          · (intro wS hSw; go_simp; (try with_reducible rfl))
          try simp only [Act.put]
          refine wpAnyH_take (i := 7) (v := ?_) rfl (by kernel_rfl) (by kernel_rfl) (by kernel_rfl) (fun _ _ _ h => h) (Or.inl ⟨by kernel_rfl, ?_⟩) (by assumption) ?_
          rotate_left 1
          · (intro wS hSw; go_simp; (try with_reducible rfl))
          try simp only [Act.put]
          refine wpAnyH_take (i := 8) (v := ?_) rfl (by kernel_rfl) (by kernel_rfl) (by kernel_rfl) (fun _ _ _ h => h) (Or.inl ⟨by kernel_rfl, ?_⟩) (by assumption) ?_
          rotate_left 1
          · (intro wS hSw; go_simp; (try with_reducible rfl))
          try simp only [Act.put]
          refine wpAnyH_ready (rs := [9]) (by kernel_rfl) (by simp) ?_
          refine AllReadyH.cons rfl (fun K hK => ?_) AllReadyH.nil
          go_simp
          have kB := heap_alloc_new u (.cells #[.int .i64 0, .slice none 0 0, .slice none 0 0] 25)
          have gs := grown_new u (.cells #[.int .i64 0, .slice none 0 0, .slice none 0 0] 25)
          have hb9 := gn.size
          have LB : Hid (∀ wx, u.grownBy wx none → IsInts wx (.slice na nn nc) (rL r0) ∧ IsInts wx (.slice nd nm nk) (rZ r0)) := fun wx hx => hla v.heap.size.pred wx (Nat.pred_lt (by have := (Array.getElem?_eq_some_iff.1 h4).1; omega)) ⟨hx.1, hx.2, hx.3, hx.4, fun i hi _ => hx.5 i hi (by simp)⟩
          have gn2 := grown_trans gn gs
          refine hK.out _ _ gn2 (fun hHeld => ?_)
          clear hK K
          try simp only [Act.put]
          generalize hvn : u.alloc (.cells #[.int .i64 0, .slice none 0 0, .slice none 0 0] 25) = y at kB gs gn2 hHeld ⊢
          clear hvn
          obtain ⟨b9, hb⟩ : ∃ b, b = u.heap.size := ⟨_, rfl⟩
          have LC : Hid (∀ wx, y.grownBy wx (some b9) → IsInts wx (.slice na nn nc) (rL r0) ∧ IsInts wx (.slice nd nm nk) (rZ r0)) := fun wx hx => LB.out wx (grown_drop gs hx (by rw [hb]; exact Nat.le_refl _))
          rw [← hb] at kB hb9 ⊢
          clear hb LB gs
          replace LB := LC
          replace gn := gn2
          clear LC gn2
          obtain ⟨k0, k1, k2⟩ := ten_cells kB
          obtain ⟨f0, f1, f2⟩ := ten_frozen kB
          obtain ⟨st, sg⟩ := store3t (.int .i64 (rTy r0)) (.slice na nn nc) (.slice nd nm nk) kB
          refine wpAnyH_ready (rs := [10]) (by kernel_rfl) (by simp) ?_
          refine AllReadyH.cons rfl (fun K hK => ?_) AllReadyH.nil
          go_simp
          have gz := grown_drop gn sg hb9
          refine hK.out _ _ gz (fun hHeld => ?_)
          clear hK K
          try simp only [Act.put]
          refine wpAnyH_take (i := 11) (v := ?_) rfl (by kernel_rfl) (by kernel_rfl) (by kernel_rfl) (fun _ _ _ h => h) (Or.inl ⟨by kernel_rfl, ?_⟩) (by assumption) ?_
          rotate_left 1
          · (intro wS hSw; go_simp; (try with_reducible rfl))
          try simp only [Act.put]
          refine wpAnyH_done (by kernel_rfl) ?_ _
          have RE := LB.out _ sg
          clear h2 h4 hq hla kB k0 k1 k2 f0 f1 f2 g gn hHeld
          go_simp
          go_wp2_with fail
          go_meet
          exact ⟨gz, b9, ⟨na, nn, nc⟩, ⟨nd, nm, nk⟩, rfl, rfl, hb9, st, RE.1, RE.2⟩
        refine AllReadyH.cons rfl (fun K hK => ?_) ?_
        · have hb9 := g.size
          go_simp
          have h9 := heap_alloc_new v (.cells #[.int .i64 0, .slice none 0 0, .slice none 0 0] 25)
          have gs := grown_new v (.cells #[.int .i64 0, .slice none 0 0, .slice none 0 0] 25)
          generalize hvn : v.alloc (.cells #[.int .i64 0, .slice none 0 0, .slice none 0 0] 25) = u at h9 gs ⊢
          clear hvn
          generalize v.heap.size = b9 at h9 hb9 ⊢
          have gn := grown_trans g gs
          refine hK.out _ _ gn (fun hHeld => ?_)
          clear hK K
          try simp only [Act.put]
          have h2 := h2.more gs
          have h4 := box_kept h4 gs
          clear g gs hHeld
          refine cast ?_ (N2_4_9 u ia il ic aa al ac b4 b9 gn h2 h4 h9 hb9)
          kernel_rfl
        exact AllReadyH.nil
      · intro v ia il ic aa al ac b4 b9 g h2 h4 h9 hb9
        refine wpAnyH_ready (rs := [5]) (by kernel_rfl) (by simp) ?_
        refine AllReadyH.cons rfl (fun K hK => ?_) ?_
        · go_simp
          refine (h2 v ⟨some ⟨b4, 0, none⟩, 1, 1⟩ ⟨tx, ⟨xa, x.length, xc⟩, ⟨ua, un, uc⟩⟩ rfl (grown_refl _) (one_ten _ h4 (HX.out.more (grown_trans GR.out g)) (HXS.out.more (grown_trans GR.out g)))).mono ?_
          intro e u hq
          obtain ⟨hgd, ⟨na, nn, nc⟩, ⟨nd, nm, nk⟩, rfl, hla⟩ := do_pastR hq
          have gn := grown_trans g hgd
          refine hK.out _ _ gn (fun hHeld => ?_)
          clear hK K
          try simp only
          have kB := box_kept h9 hgd
          have LB : Hid (∀ wx, u.grownBy wx (some b9) → IsInts wx (.slice na nn nc) (rL r0) ∧ IsInts wx (.slice nd nm nk) (rZ r0)) := fun wx hx => hla b9 wx (Array.getElem?_eq_some_iff.1 h9).1 hx
          refine wpAnyH_take (i := 6) (v := ?_) rfl (by kernel_rfl) (by kernel_rfl) (by kernel_rfl) (fun _ _ _ h => h) (Or.inl ⟨by kernel_rfl, ?_⟩) (by assumption) ?_
          rotate_left 1
          · (intro wS hSw; go_simp; (try with_reducible rfl))
          try simp only [Act.put]
          refine wpAnyH_take (i := 7) (v := ?_) rfl (by kernel_rfl) (by kernel_rfl) (by kernel_rfl) (fun _ _ _ h => h) (Or.inl ⟨by kernel_rfl, ?_⟩) (by assumption) ?_
          rotate_left 1
          · (intro wS hSw; go_simp; (try with_reducible rfl))
          try simp only [Act.put]
          refine wpAnyH_take (i := 8) (v := ?_) rfl (by kernel_rfl) (by kernel_rfl) (by kernel_rfl) (fun _ _ _ h => h) (Or.inl ⟨by kernel_rfl, ?_⟩) (by assumption) ?_
          rotate_left 1
          · (intro wS hSw; go_simp; (try with_reducible rfl))
          try simp only [Act.put]
          obtain ⟨k0, k1, k2⟩ := ten_cells kB
          obtain ⟨f0, f1, f2⟩ := ten_frozen kB
          obtain ⟨st, sg⟩ := store3t (.int .i64 (rTy r0)) (.slice na nn nc) (.slice nd nm nk) kB
          refine wpAnyH_ready (rs := [10]) (by kernel_rfl) (by simp) ?_
          refine AllReadyH.cons rfl (fun K hK => ?_) AllReadyH.nil
          go_simp
          have gz := grown_drop gn sg hb9
          refine hK.out _ _ gz (fun hHeld => ?_)
          clear hK K
          try simp only [Act.put]
          refine wpAnyH_take (i := 11) (v := ?_) rfl (by kernel_rfl) (by kernel_rfl) (by kernel_rfl) (fun _ _ _ h => h) (Or.inl ⟨by kernel_rfl, ?_⟩) (by assumption) ?_
          rotate_left 1
          · (intro wS hSw; go_simp; (try with_reducible rfl))
          try simp only [Act.put]
          refine wpAnyH_done (by kernel_rfl) ?_ _
          have RE := LB.out _ sg
          clear h2 h4 h9 hq hla kB k0 k1 k2 f0 f1 f2 g gn hHeld
          go_simp
          go_wp2_with fail
          go_meet
          exact ⟨gz, b9, ⟨na, nn, nc⟩, ⟨nd, nm, nk⟩, rfl, rfl, hb9, st, RE.1, RE.2⟩
        exact AllReadyH.nil
    case rest =>
    obtain ⟨hgc, B0, ⟨aa, an, ac⟩, ⟨ad, am, ak⟩, rfl, rfl, hB0, hb0, ia, ja⟩ := hcut
    obtain ⟨wA, ewA⟩ : ∃ z, z = wc := ⟨_, rfl⟩
    subst ewA
    simp only [Sl.v] at hb0 ia ja
    have KA1 : Hid (∀ v, wA.grownBy v none → Calls Tryz.prog 10 #[.string o, .int .i64 axis, .int .i64 1] v (NodeQ o tx x xs r1 v)) := fun v hv => KA1.out v (grown_trans hgc hv)
    replace GR := hide (grown_trans GR.out hgc)
    replace GR0 := hide (grown_trans GR0.out hgc)
    have BA := hide hb0
    have JA := hide ja
    obtain ⟨x0, x1, x2⟩ := ten_cells (BX.out wA GR0.out)
    clear hgc hB0 hb0 ia ja KA0
    go_upto_region 8 with fail
    go_cut [11, 12] from 39 to 48 (fun t5 t6 wx => wA.grownBy wx none ∧ ∃ (B : Nat) (dv tv : Sl), t5 = .pointer (some ⟨B, 0, none⟩) ∧ t6 = .int .i64 (rC r1) ∧ wA.heap.size ≤ B ∧ wx.heap[B]? = some (.cells #[.int .i64 (rTy r1), .slice dv.a dv.n dv.c, .slice tv.a tv.n tv.c] 25 (0, 0)) ∧ IsInts wx dv.v (rL r1) ∧ IsInts wx tv.v (rZ r1))
    case first =>
      refine wp_region_held_drew (S := fun w' => wA.grownBy w' none) (by kernel_rfl) (grown_drew (grown_refl _)) (fun _ => ?_)
      refine' with_node (N := ∀ (v : World) (ia : Option Addr) (il : Nat) (ic : Nat) (aa : Option Addr) (al : Nat) (ac : Nat) (b4 : Nat) (b9 : Nat), wA.grownBy v none → NodeD o tx x xs r1 ⟨ia, il, ic⟩ ⟨aa, al, ac⟩ v → v.heap[b4]? = some (.cells #[.int .i64 tx, .slice xa x.length xc, .slice ua un uc] 25 (0, 0)) → v.heap[b9]? = some (.cells #[.int .i64 0, .slice none 0 0, .slice none 0 0] 25 (0, 0)) → wA.heap.size ≤ b9 → (_ : World → Option Addr → Nat → Nat → Option Addr → Nat → Nat → Nat → Nat → Prop) v ia il ic aa al ac b4 b9) (fun N2_4_9 => ?_) ?_
      rotate_left 1
      refine' with_node (N := ∀ (v : World) (ia : Option Addr) (il : Nat) (ic : Nat) (aa : Option Addr) (al : Nat) (ac : Nat) (b4 : Nat), wA.grownBy v none → NodeD o tx x xs r1 ⟨ia, il, ic⟩ ⟨aa, al, ac⟩ v → v.heap[b4]? = some (.cells #[.int .i64 tx, .slice xa x.length xc, .slice ua un uc] 25 (0, 0)) → (_ : World → Option Addr → Nat → Nat → Option Addr → Nat → Nat → Nat → Prop) v ia il ic aa al ac b4) (fun N2_4 => ?_) ?_
      rotate_left 1
      refine' with_node (N := ∀ (v : World) (ia : Option Addr) (il : Nat) (ic : Nat) (aa : Option Addr) (al : Nat) (ac : Nat) (b9 : Nat), wA.grownBy v none → NodeD o tx x xs r1 ⟨ia, il, ic⟩ ⟨aa, al, ac⟩ v → v.heap[b9]? = some (.cells #[.int .i64 0, .slice none 0 0, .slice none 0 0] 25 (0, 0)) → wA.heap.size ≤ b9 → (_ : World → Option Addr → Nat → Nat → Option Addr → Nat → Nat → Nat → Prop) v ia il ic aa al ac b9) (fun N2_9 => ?_) ?_
      rotate_left 1
      refine' with_node (N := ∀ (v : World) (b4 : Nat) (b9 : Nat), wA.grownBy v none → v.heap[b4]? = some (.cells #[.int .i64 tx, .slice xa x.length xc, .slice ua un uc] 25 (0, 0)) → v.heap[b9]? = some (.cells #[.int .i64 0, .slice none 0 0, .slice none 0 0] 25 (0, 0)) → wA.heap.size ≤ b9 → (_ : World → Nat → Nat → Prop) v b4 b9) (fun N4_9 => ?_) ?_
      rotate_left 1
      refine' with_node (N := ∀ (v : World) (ia : Option Addr) (il : Nat) (ic : Nat) (aa : Option Addr) (al : Nat) (ac : Nat), wA.grownBy v none → NodeD o tx x xs r1 ⟨ia, il, ic⟩ ⟨aa, al, ac⟩ v → (_ : World → Option Addr → Nat → Nat → Option Addr → Nat → Nat → Prop) v ia il ic aa al ac) (fun N2 => ?_) ?_
      rotate_left 1
      refine' with_node (N := ∀ (v : World) (b4 : Nat), wA.grownBy v none → v.heap[b4]? = some (.cells #[.int .i64 tx, .slice xa x.length xc, .slice ua un uc] 25 (0, 0)) → (_ : World → Nat → Prop) v b4) (fun N4 => ?_) ?_
      rotate_left 1
      refine' with_node (N := ∀ (v : World) (b9 : Nat), wA.grownBy v none → v.heap[b9]? = some (.cells #[.int .i64 0, .slice none 0 0, .slice none 0 0] 25 (0, 0)) → wA.heap.size ≤ b9 → (_ : World → Nat → Prop) v b9) (fun N9 => ?_) ?_
      rotate_left 1
      · have g : wA.grownBy wA.drew none := grown_drew (grown_refl _)
        generalize hv : wA.drew = v at g ⊢
        clear hv
        refine wpAnyH_take (i := 0) (v := ?_) rfl (by kernel_rfl) (by kernel_rfl) (by kernel_rfl) (fun _ _ _ h => h) (Or.inl ⟨by kernel_rfl, ?_⟩) (by assumption) ?_
        rotate_left 1
        · (intro wS hSw; go_simp; (try with_reducible rfl))
        try simp only [Act.put]
        refine wpAnyH_take (i := 1) (v := ?_) rfl (by kernel_rfl) (by kernel_rfl) (by kernel_rfl) (fun _ _ _ h => h) (Or.inl ⟨by kernel_rfl, ?_⟩) (by assumption) ?_
        rotate_left 1
        · (intro wS hSw; go_simp; (try with_reducible rfl))
        try simp only [Act.put]
        refine wpAnyH_take (i := 3) (v := ?_) rfl (by kernel_rfl) (by kernel_rfl) (by kernel_rfl) (fun _ _ _ h => h) (Or.inl ⟨by kernel_rfl, ?_⟩) (by assumption) ?_
        rotate_left 1
        · (intro wS hSw; have c0 := cell_still x0 hSw; have c1 := cell_still x1 hSw; have c2 := cell_still x2 hSw; go_simp; (try with_reducible rfl))
        try simp only [Act.put]
        refine wpAnyH_ready (rs := [2, 4, 9]) (by kernel_rfl) (by simp) ?_
        refine AllReadyH.cons rfl (fun K hK => ?_) ?_
        · go_simp
          refine (KA1.out v g).mono ?_
          rintro e u ⟨⟨ia, il, ic⟩, ⟨aa, al, ac⟩, rfl, gs, h2⟩
          replace h2 : NodeD o tx x xs r1 ⟨ia, il, ic⟩ ⟨aa, al, ac⟩ u := h2
          simp only
          have gn := grown_trans g gs
          refine hK.out _ _ gn (fun hHeld => ?_)
          clear hK K
          try simp only [Act.put]
          clear g gs hHeld
          exact N2 u ia il ic aa al ac gn h2
        refine AllReadyH.cons rfl (fun K hK => ?_) ?_
        · go_simp
          have h4 := heap_alloc_new v (.cells #[.int .i64 tx, .slice xa x.length xc, .slice ua un uc] 25)
          have gs := grown_new v (.cells #[.int .i64 tx, .slice xa x.length xc, .slice ua un uc] 25)
          generalize hvn : v.alloc (.cells #[.int .i64 tx, .slice xa x.length xc, .slice ua un uc] 25) = u at h4 gs ⊢
          clear hvn
          generalize v.heap.size = b4 at h4 ⊢
          have gn := grown_trans g gs
          refine hK.out _ _ gn (fun hHeld => ?_)
          clear hK K
          try simp only [Act.put]
          clear g gs hHeld
          exact N4 u b4 gn h4
        refine AllReadyH.cons rfl (fun K hK => ?_) ?_
        · have hb9 := g.size
          go_simp
          have h9 := heap_alloc_new v (.cells #[.int .i64 0, .slice none 0 0, .slice none 0 0] 25)
          have gs := grown_new v (.cells #[.int .i64 0, .slice none 0 0, .slice none 0 0] 25)
          generalize hvn : v.alloc (.cells #[.int .i64 0, .slice none 0 0, .slice none 0 0] 25) = u at h9 gs ⊢
          clear hvn
          generalize v.heap.size = b9 at h9 hb9 ⊢
          have gn := grown_trans g gs
          refine hK.out _ _ gn (fun hHeld => ?_)
          clear hK K
          try simp only [Act.put]
          clear g gs hHeld
          exact N9 u b9 gn h9 hb9
        exact AllReadyH.nil
      · intro v b9 g h9 hb9
        refine wpAnyH_ready (rs := [2, 4]) (by kernel_rfl) (by simp) ?_
        refine AllReadyH.cons rfl (fun K hK => ?_) ?_
        · go_simp
          refine (KA1.out v g).mono ?_
          rintro e u ⟨⟨ia, il, ic⟩, ⟨aa, al, ac⟩, rfl, gs, h2⟩
          replace h2 : NodeD o tx x xs r1 ⟨ia, il, ic⟩ ⟨aa, al, ac⟩ u := h2
          simp only
          have gn := grown_trans g gs
          refine hK.out _ _ gn (fun hHeld => ?_)
          clear hK K
          try simp only [Act.put]
          have h9 := box_kept h9 gs
          clear g gs hHeld
          exact N2_9 u ia il ic aa al ac b9 gn h2 h9 hb9
        refine AllReadyH.cons rfl (fun K hK => ?_) ?_
        · go_simp
          have h4 := heap_alloc_new v (.cells #[.int .i64 tx, .slice xa x.length xc, .slice ua un uc] 25)
          have gs := grown_new v (.cells #[.int .i64 tx, .slice xa x.length xc, .slice ua un uc] 25)
          generalize hvn : v.alloc (.cells #[.int .i64 tx, .slice xa x.length xc, .slice ua un uc] 25) = u at h4 gs ⊢
          clear hvn
          generalize v.heap.size = b4 at h4 ⊢
          have gn := grown_trans g gs
          refine hK.out _ _ gn (fun hHeld => ?_)
          clear hK K
          try simp only [Act.put]
          have h9 := box_kept h9 gs
          clear g gs hHeld
          exact N4_9 u b4 b9 gn h4 h9 hb9
        exact AllReadyH.nil
      · intro v b4 g h4
        refine wpAnyH_ready (rs := [2, 9]) (by kernel_rfl) (by simp) ?_
        refine AllReadyH.cons rfl (fun K hK => ?_) ?_
        · go_simp
          refine (KA1.out v g).mono ?_
          rintro e u ⟨⟨ia, il, ic⟩, ⟨aa, al, ac⟩, rfl, gs, h2⟩
          replace h2 : NodeD o tx x xs r1 ⟨ia, il, ic⟩ ⟨aa, al, ac⟩ u := h2
          simp only
          have gn := grown_trans g gs
          refine hK.out _ _ gn (fun hHeld => ?_)
          clear hK K
          try simp only [Act.put]
          have h4 := box_kept h4 gs
          clear g gs hHeld
          exact N2_4 u ia il ic aa al ac b4 gn h2 h4
        refine AllReadyH.cons rfl (fun K hK => ?_) ?_
        · have hb9 := g.size
          go_simp
          have h9 := heap_alloc_new v (.cells #[.int .i64 0, .slice none 0 0, .slice none 0 0] 25)
          have gs := grown_new v (.cells #[.int .i64 0, .slice none 0 0, .slice none 0 0] 25)
          generalize hvn : v.alloc (.cells #[.int .i64 0, .slice none 0 0, .slice none 0 0] 25) = u at h9 gs ⊢
          clear hvn
          generalize v.heap.size = b9 at h9 hb9 ⊢
          have gn := grown_trans g gs
          refine hK.out _ _ gn (fun hHeld => ?_)
          clear hK K
          try simp only [Act.put]
          have h4 := box_kept h4 gs
          clear g gs hHeld
          refine cast ?_ (N4_9 u b4 b9 gn h4 h9 hb9)
          kernel_rfl
        exact AllReadyH.nil
      · intro v ia il ic aa al ac g h2
        refine wpAnyH_ready (rs := [4, 9]) (by kernel_rfl) (by simp) ?_
        refine AllReadyH.cons rfl (fun K hK => ?_) ?_
        · go_simp
          have h4 := heap_alloc_new v (.cells #[.int .i64 tx, .slice xa x.length xc, .slice ua un uc] 25)
          have gs := grown_new v (.cells #[.int .i64 tx, .slice xa x.length xc, .slice ua un uc] 25)
          generalize hvn : v.alloc (.cells #[.int .i64 tx, .slice xa x.length xc, .slice ua un uc] 25) = u at h4 gs ⊢
          clear hvn
          generalize v.heap.size = b4 at h4 ⊢
          have gn := grown_trans g gs
          refine hK.out _ _ gn (fun hHeld => ?_)
          clear hK K
          try simp only [Act.put]
          have h2 := h2.more gs
          clear g gs hHeld
          refine cast ?_ (N2_4 u ia il ic aa al ac b4 gn h2 h4)
          kernel_rfl
        refine AllReadyH.cons rfl (fun K hK => ?_) ?_
        · have hb9 := g.size
          go_simp
          have h9 := heap_alloc_new v (.cells #[.int .i64 0, .slice none 0 0, .slice none 0 0] 25)
          have gs := grown_new v (.cells #[.int .i64 0, .slice none 0 0, .slice none 0 0] 25)
          generalize hvn : v.alloc (.cells #[.int .i64 0, .slice none 0 0, .slice none 0 0] 25) = u at h9 gs ⊢
          clear hvn
          generalize v.heap.size = b9 at h9 hb9 ⊢
          have gn := grown_trans g gs
          refine hK.out _ _ gn (fun hHeld => ?_)
          clear hK K
          try simp only [Act.put]
          have h2 := h2.more gs
          clear g gs hHeld
          refine cast ?_ (N2_9 u ia il ic aa al ac b9 gn h2 h9 hb9)
          kernel_rfl
        exact AllReadyH.nil
      · intro v b4 b9 g h4 h9 hb9
        refine wpAnyH_ready (rs := [2]) (by kernel_rfl) (by simp) ?_
        refine AllReadyH.cons rfl (fun K hK => ?_) ?_
        · go_simp
          refine (KA1.out v g).mono ?_
          rintro e u ⟨⟨ia, il, ic⟩, ⟨aa, al, ac⟩, rfl, gs, h2⟩
          replace h2 : NodeD o tx x xs r1 ⟨ia, il, ic⟩ ⟨aa, al, ac⟩ u := h2
          simp only
          have gn := grown_trans g gs
          refine hK.out _ _ gn (fun hHeld => ?_)
          clear hK K
          try simp only [Act.put]
          have h4 := box_kept h4 gs
          have h9 := box_kept h9 gs
          clear g gs hHeld
          exact N2_4_9 u ia il ic aa al ac b4 b9 gn h2 h4 h9 hb9
        exact AllReadyH.nil
      · intro v ia il ic aa al ac b9 g h2 h9 hb9
        refine wpAnyH_ready (rs := [4]) (by kernel_rfl) (by simp) ?_
        refine AllReadyH.cons rfl (fun K hK => ?_) ?_
        · go_simp
          have h4 := heap_alloc_new v (.cells #[.int .i64 tx, .slice xa x.length xc, .slice ua un uc] 25)
          have gs := grown_new v (.cells #[.int .i64 tx, .slice xa x.length xc, .slice ua un uc] 25)
          generalize hvn : v.alloc (.cells #[.int .i64 tx, .slice xa x.length xc, .slice ua un uc] 25) = u at h4 gs ⊢
          clear hvn
          generalize v.heap.size = b4 at h4 ⊢
          have gn := grown_trans g gs
          refine hK.out _ _ gn (fun hHeld => ?_)
          clear hK K
          try simp only [Act.put]
          have h2 := h2.more gs
          have h9 := box_kept h9 gs
          clear g gs hHeld
          refine cast ?_ (N2_4_9 u ia il ic aa al ac b4 b9 gn h2 h4 h9 hb9)
          kernel_rfl
        exact AllReadyH.nil
      · intro v ia il ic aa al ac b4 g h2 h4
        refine wpAnyH_ready (rs := [5, 9]) (by kernel_rfl) (by simp) ?_
        refine AllReadyH.cons rfl (fun K hK => ?_) ?_
        · go_simp
          refine (h2 v ⟨some ⟨b4, 0, none⟩, 1, 1⟩ ⟨tx, ⟨xa, x.length, xc⟩, ⟨ua, un, uc⟩⟩ rfl (grown_refl _) (one_ten _ h4 (HX.out.more (grown_trans GR.out g)) (HXS.out.more (grown_trans GR.out g)))).mono ?_
          intro e u hq
          obtain ⟨hgd, ⟨na, nn, nc⟩, ⟨nd, nm, nk⟩, rfl, hla⟩ := do_pastR hq
          have gn := grown_trans g hgd
          refine hK.out _ _ gn (fun hHeld => ?_)
          clear hK K
          try simp only
          skip
          refine wpAnyH_take (i := 6) (v := ?_) rfl (by kernel_rfl) (by kernel_rfl) (by kernel_rfl) (fun _ _ _ h => h) (Or.inl ⟨by kernel_rfl, ?_⟩) (by assumption) ?_
          rotate_left 1
          · (intro wS hSw; go_simp; (try with_reducible rfl))
          try simp only [Act.put]
          refine wpAnyH_take (i := 7) (v := ?_) rfl (by kernel_rfl) (by kernel_rfl) (by kernel_rfl) (fun _ _ _ h => h) (Or.inl ⟨by kernel_rfl, ?_⟩) (by assumption) ?_
          rotate_left 1
          · (intro wS hSw; go_simp; (try with_reducible rfl))
          try simp only [Act.put]
          refine wpAnyH_take (i := 8) (v := ?_) rfl (by kernel_rfl) (by kernel_rfl) (by kernel_rfl) (fun _ _ _ h => h) (Or.inl ⟨by kernel_rfl, ?_⟩) (by assumption) ?_
          rotate_left 1
          · (intro wS hSw; go_simp; (try with_reducible rfl))
          try simp only [Act.put]
          refine wpAnyH_ready (rs := [9]) (by kernel_rfl) (by simp) ?_
          refine AllReadyH.cons rfl (fun K hK => ?_) AllReadyH.nil
          go_simp
          have kB := heap_alloc_new u (.cells #[.int .i64 0, .slice none 0 0, .slice none 0 0] 25)
          have gs := grown_new u (.cells #[.int .i64 0, .slice none 0 0, .slice none 0 0] 25)
          have hb9 := gn.size
          have LB : Hid (∀ wx, u.grownBy wx none → IsInts wx (.slice na nn nc) (rL r1) ∧ IsInts wx (.slice nd nm nk) (rZ r1)) := fun wx hx => hla v.heap.size.pred wx (Nat.pred_lt (by have := (Array.getElem?_eq_some_iff.1 h4).1; omega)) ⟨hx.1, hx.2, hx.3, hx.4, fun i hi _ => hx.5 i hi (by simp)⟩
          have gn2 := grown_trans gn gs
          refine hK.out _ _ gn2 (fun hHeld => ?_)
          clear hK K
          try simp only [Act.put]
          generalize hvn : u.alloc (.cells #[.int .i64 0, .slice none 0 0, .slice none 0 0] 25) = y at kB gs gn2 hHeld ⊢
          clear hvn
          obtain ⟨b9, hb⟩ : ∃ b, b = u.heap.size := ⟨_, rfl⟩
          have LC : Hid (∀ wx, y.grownBy wx (some b9) → IsInts wx (.slice na nn nc) (rL r1) ∧ IsInts wx (.slice nd nm nk) (rZ r1)) := fun wx hx => LB.out wx (grown_drop gs hx (by rw [hb]; exact Nat.le_refl _))
          rw [← hb] at kB hb9 ⊢
          clear hb LB gs
          replace LB := LC
          replace gn := gn2
          clear LC gn2
          obtain ⟨k0, k1, k2⟩ := ten_cells kB
          obtain ⟨f0, f1, f2⟩ := ten_frozen kB
          obtain ⟨st, sg⟩ := store3t (.int .i64 (rTy r1)) (.slice na nn nc) (.slice nd nm nk) kB
          refine wpAnyH_ready (rs := [10]) (by kernel_rfl) (by simp) ?_
          refine AllReadyH.cons rfl (fun K hK => ?_) AllReadyH.nil
          go_simp
          have gz := grown_drop gn sg hb9
          refine hK.out _ _ gz (fun hHeld => ?_)
          clear hK K
          try simp only [Act.put]
          refine wpAnyH_take (i := 11) (v := ?_) rfl (by kernel_rfl) (by kernel_rfl) (by kernel_rfl) (fun _ _ _ h => h) (Or.inl ⟨by kernel_rfl, ?_⟩) (by assumption) ?_
          rotate_left 1
          · (intro wS hSw; go_simp; (try with_reducible rfl))
          try simp only [Act.put]
          refine wpAnyH_done (by kernel_rfl) ?_ _
          have RE := LB.out _ sg
          clear h2 h4 hq hla kB k0 k1 k2 f0 f1 f2 g gn hHeld
          go_simp
          go_wp2_with fail
          go_meet
          exact ⟨gz, b9, ⟨na, nn, nc⟩, ⟨nd, nm, nk⟩, rfl, rfl, hb9, st, RE.1, RE.2⟩
        refine AllReadyH.cons rfl (fun K hK => ?_) ?_
        · have hb9 := g.size
          go_simp
          have h9 := heap_alloc_new v (.cells #[.int .i64 0, .slice none 0 0, .slice none 0 0] 25)
          have gs := grown_new v (.cells #[.int .i64 0, .slice none 0 0, .slice none 0 0] 25)
          generalize hvn : v.alloc (.cells #[.int .i64 0, .slice none 0 0, .slice none 0 0] 25) = u at h9 gs ⊢
          clear hvn
          generalize v.heap.size = b9 at h9 hb9 ⊢
          have gn := grown_trans g gs
          refine hK.out _ _ gn (fun hHeld => ?_)
          clear hK K
          try simp only [Act.put]
          have h2 := h2.more gs
          have h4 := box_kept h4 gs
          clear g gs hHeld
          refine cast ?_ (N2_4_9 u ia il ic aa al ac b4 b9 gn h2 h4 h9 hb9)
          kernel_rfl
        exact AllReadyH.nil
      · intro v ia il ic aa al ac b4 b9 g h2 h4 h9 hb9
        refine wpAnyH_ready (rs := [5]) (by kernel_rfl) (by simp) ?_
        refine AllReadyH.cons rfl (fun K hK => ?_) ?_
        · go_simp
          refine (h2 v ⟨some ⟨b4, 0, none⟩, 1, 1⟩ ⟨tx, ⟨xa, x.length, xc⟩, ⟨ua, un, uc⟩⟩ rfl (grown_refl _) (one_ten _ h4 (HX.out.more (grown_trans GR.out g)) (HXS.out.more (grown_trans GR.out g)))).mono ?_
          intro e u hq
          obtain ⟨hgd, ⟨na, nn, nc⟩, ⟨nd, nm, nk⟩, rfl, hla⟩ := do_pastR hq
          have gn := grown_trans g hgd
          refine hK.out _ _ gn (fun hHeld => ?_)
          clear hK K
          try simp only
          have kB := box_kept h9 hgd
          have LB : Hid (∀ wx, u.grownBy wx (some b9) → IsInts wx (.slice na nn nc) (rL r1) ∧ IsInts wx (.slice nd nm nk) (rZ r1)) := fun wx hx => hla b9 wx (Array.getElem?_eq_some_iff.1 h9).1 hx
          refine wpAnyH_take (i := 6) (v := ?_) rfl (by kernel_rfl) (by kernel_rfl) (by kernel_rfl) (fun _ _ _ h => h) (Or.inl ⟨by kernel_rfl, ?_⟩) (by assumption) ?_
          rotate_left 1
          · (intro wS hSw; go_simp; (try with_reducible rfl))
          try simp only [Act.put]
          refine wpAnyH_take (i := 7) (v := ?_) rfl (by kernel_rfl) (by kernel_rfl) (by kernel_rfl) (fun _ _ _ h => h) (Or.inl ⟨by kernel_rfl, ?_⟩) (by assumption) ?_
          rotate_left 1
          · (intro wS hSw; go_simp; (try with_reducible rfl))
          try simp only [Act.put]
          refine wpAnyH_take (i := 8) (v := ?_) rfl (by kernel_rfl) (by kernel_rfl) (by kernel_rfl) (fun _ _ _ h => h) (Or.inl ⟨by kernel_rfl, ?_⟩) (by assumption) ?_
          rotate_left 1
          · (intro wS hSw; go_simp; (try with_reducible rfl))
          try simp only [Act.put]
          obtain ⟨k0, k1, k2⟩ := ten_cells kB
          obtain ⟨f0, f1, f2⟩ := ten_frozen kB
          obtain ⟨st, sg⟩ := store3t (.int .i64 (rTy r1)) (.slice na nn nc) (.slice nd nm nk) kB
          refine wpAnyH_ready (rs := [10]) (by kernel_rfl) (by simp) ?_
          refine AllReadyH.cons rfl (fun K hK => ?_) AllReadyH.nil
          go_simp
          have gz := grown_drop gn sg hb9
          refine hK.out _ _ gz (fun hHeld => ?_)
          clear hK K
          try simp only [Act.put]
          refine wpAnyH_take (i := 11) (v := ?_) rfl (by kernel_rfl) (by kernel_rfl) (by kernel_rfl) (fun _ _ _ h => h) (Or.inl ⟨by kernel_rfl, ?_⟩) (by assumption) ?_
          rotate_left 1
          · (intro wS hSw; go_simp; (try with_reducible rfl))
          try simp only [Act.put]
          refine wpAnyH_done (by kernel_rfl) ?_ _
          have RE := LB.out _ sg
          clear h2 h4 h9 hq hla kB k0 k1 k2 f0 f1 f2 g gn hHeld
          go_simp
          go_wp2_with fail
          go_meet
          exact ⟨gz, b9, ⟨na, nn, nc⟩, ⟨nd, nm, nk⟩, rfl, rfl, hb9, st, RE.1, RE.2⟩
        exact AllReadyH.nil
    case rest =>
    obtain ⟨hgc, B1, ⟨ba, bn, bc⟩, ⟨bd, bm, bk⟩, rfl, rfl, hB1, hb1, ib, jb⟩ := hcut
    simp only [Sl.v] at hb1 ib jb
    have LC := hide (LV.out wc (grown_trans GR.out hgc))
    have GZ := hide (grown_trans GR.out hgc)
    have hk := HK.out
    rw [← hk.err]
    rw [← hk.dat] at jb
    obtain ⟨a0, a1, a2⟩ := ten_cells (box_kept BA.out hgc)
    obtain ⟨c0, c1, c2⟩ := ten_cells hb1
    obtain ⟨x0, x1, x2⟩ := ten_cells (BX.out wc (grown_trans GR0.out hgc))
    have ja := JA.out.more hgc
    obtain ⟨_, _, e1, -⟩ := ja.sl
    obtain ⟨_, _, e2, -⟩ := jb.sl
    obtain ⟨_, _, e3, -⟩ := ib.sl
    simp only [Value.slice.injEq] at e1 e2 e3
    obtain ⟨-, rfl, -⟩ := e1
    obtain ⟨-, rfl, -⟩ := e2
    obtain ⟨-, rfl, -⟩ := e3
    have JA2 := hide ja
    have JB2 := hide jb
    have HL2 : Hid (rC r0 = 0 → (rL r1).length = x.length) := fun h => hk.len (by rw [← hk.err]; exact h)
    obtain ⟨Zs, hZ⟩ : ∃ Z, Z = rZ r0 := ⟨_, rfl⟩
    rw [← hZ] at a2 c2 JA2 JB2
    obtain ⟨ec, hec⟩ : ∃ e, e = rC r0 := ⟨_, rfl⟩
    rw [← hec] at HL2 ⊢
    obtain ⟨ll, hll⟩ : ∃ n, n = (rL r1).length := ⟨_, rfl⟩
    rw [← hll] at c1 HL2
    clear hgc hB1 hb1 ib jb ja hk hZ hec hll KA1 HK BA JA
    have AC : Hid (∀ wx, wc.grownBy wx none → wx.cell? ⟨B0, 2, none⟩ = some (.slice ad Zs.length ak) ∧ wx.cell? ⟨B1, 2, none⟩ = some (.slice bd Zs.length bk) ∧ wx.cell? ⟨B1, 1, none⟩ = some (.slice ba ll bc) ∧ wx.cell? ⟨w.heap.size, 1, none⟩ = some (.slice xa x.length xc)) := fun wx h => ⟨cell_still a2 h, cell_still c2 h, cell_still c1 h, cell_still x1 h⟩
    have LW : Hid (∀ wx, wc.grownBy wx none → Calls Tryz.prog 8 #[] wx fun e w' => e = .returned (.bool true) ∧ wx.grownBy w' none) := fun wx h => LV.out wx (grown_trans GZ.out h)
    have hZl : Zs.length ≤ 140737488351232 := by have := JA2.out.le; omega
    clear a0 a1 c0 LC x0 x2
    go_wp2_with fail
    clear a2 c1 c2 x1
    go_loopw [13] (fun i wr => wc.grownBy wr none ∧ ∃ k : Nat, k ≤ Zs.length ∧ i = .int .i64 k) (fun i _ => Zs.length - (intOf i).toNat)
    case atStart => exact ⟨grown_refl _, 0, Nat.zero_le _, rfl⟩
    case round =>
      obtain ⟨hg, k, hk, rfl⟩ := hrel
      have HG := hide hg
      obtain ⟨a2, c2, c1, x1⟩ := AC.out wr hg
      by_cases hlt : k < Zs.length
      · obtain ⟨pa, po, rfl, hca⟩ := JA2.out.get hlt
        obtain ⟨pb, pq, rfl, hcb⟩ := JB2.out.get hlt
        have q0 := cell_still (hca k hlt) hg
        have q1 := cell_still (hcb k hlt) hg
        obtain ⟨y, hy⟩ : ∃ y, y = Zs.getD k 0 := ⟨_, rfl⟩
        rw [← hy] at q0 q1
        have l1 : (k : Int) < (Zs.length : Int) := by omega
        clear hg hca hcb hy c1 x1
        go_wp2_with fail
        go_region
        go_wp2_with fail
        go_roundw
        case rel => exact ⟨grown_drew HG.out, k + 1, by omega, by go_num⟩
        case measure => simp [intOf]; omega
      · have hke : k = Zs.length := by omega
        subst hke
        have LX := hide (LW.out wr hg)
        clear hg
        by_cases he : ec = 0
        · have hl := HL2.out he
          have e1 : (ec != 0) = false := by rw [he]; rfl
          have e2 : ((ll : Int) == (x.length : Int)) = true := by rw [hl]; simp
          clear hl he
          go_wp2_with fail
          refine LX.out.mono ?_
          rintro e w8 ⟨rfl, hg8⟩
          go_wp2
          go_ret
          exact ⟨rfl, grown_below (grown_trans GZ.out (grown_trans HG.out hg8))⟩
        · have e1 : (ec != 0) = true := by simpa using he
          clear he
          go_wp2_with fail
          refine LX.out.mono ?_
          rintro e w8 ⟨rfl, hg8⟩
          go_wp2
          go_ret
          exact ⟨rfl, grown_below (grown_trans GZ.out (grown_trans HG.out hg8))⟩

end Go.Proofs.YtahmmilhmoogbaaGreatDoor
