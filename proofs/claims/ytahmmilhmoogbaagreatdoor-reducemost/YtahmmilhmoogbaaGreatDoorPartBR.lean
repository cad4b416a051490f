/- Joined texts: LRMostW. -/
import Derived.Test.YtahmmilhmoogbaaGreatDoorPartBQ
import Derived.Deep.Cut
import Derived.Deep.RegionHeld3
namespace Go.Proofs.YtahmmilhmoogbaaGreatDoor

open Go.RowKit

theorem with_node {N R : Prop} (h : N → R) (n : N) : R := h n

theorem do_pastR {w w' : World} {r : R (Int × List Int × List Int)} {e : Ending} (h : DoQ w r e w') : w.grownBy w' none ∧ ∃ d t : Sl, e = .returned (.tuple #[.agg #[.int .i64 (rTy r), .slice d.a d.n d.c, .slice t.a t.n t.c], .int .i64 (rC r)]) ∧ ∀ C wx, C < w.heap.size → w'.grownBy wx (some C) → IsInts wx d.v (rL r) ∧ IsInts wx t.v (rZ r) := by
  obtain ⟨hg, h⟩ := h
  refine ⟨hg, ?_⟩
  cases r with
  | error c => exact ⟨⟨none, 0, 0⟩, ⟨none, 0, 0⟩, h, fun C wx _ _ => ⟨(owns_nil wx 0).ints, (owns_nil wx 0).ints⟩⟩
  | ok rr =>
    obtain ⟨ty, l, zs⟩ := rr
    obtain ⟨⟨ty', d, t⟩, e1, e2, od, ot⟩ := h
    simp only at e1
    subst e1
    refine ⟨d, t, e2, fun C wx hC hx => ⟨Owns.ints ⟨od.1.kept hx ?_, od.2⟩, OwnsE.ints ⟨ot.1.kept hx ?_, ot.2⟩⟩⟩
    · cases e : d.v.ownBlock with
      | none => exact .inl rfl
      | some k => exact .inr (fun e2 => by have := (od.1.lt k e).1; cases e2; omega)
    · cases e : t.v.ownBlock with
      | none => exact .inl rfl
      | some k => exact .inr (fun e2 => by have := (ot.1.lt k e).1; cases e2; omega)

def NodeD (op : ByteArray) (t : Int) (x xs : List Int) (r : R (Int × List Int × List Int)) (iv av : Sl) (w' : World) : Prop :=
  ∀ (wx : World) (u : Sl) (T0 : Ten), T0.ty = t → w'.grownBy wx none → TensIn wx u.v [(T0, (x, xs))] → Calls Tryz.prog 9 #[.agg #[.string op, .string ⟨#[]⟩, .slice iv.a iv.n iv.c, .string ⟨#[122]⟩, .slice av.a av.n av.c], .slice u.a u.n u.c] wx (DoQ wx r)

theorem NodeD.more {op : ByteArray} {t : Int} {x xs : List Int} {r : R (Int × List Int × List Int)} {iv av : Sl} {w w' : World} (h : NodeD op t x xs r iv av w) (hg : w.grownBy w' none) : NodeD op t x xs r iv av w' := fun wx u T0 ht hx hv => h wx u T0 ht (grown_trans hg hx) hv

theorem node_max (t a : Int) (x xs : List Int) (ha : Rng a) (w : World) (hl : Laid w) : Calls Tryz.prog 10 #[.string ⟨#[82, 101, 100, 117, 99, 101, 77, 97, 120]⟩, .int .i64 a, .int .i64 1] w (NodeQ ⟨#[82, 101, 100, 117, 99, 101, 77, 97, 120]⟩ t x xs (maxR (kpAt ⟨#[82, 101, 100, 117, 99, 101, 77, 97, 120]⟩ 1 nilS [a]) t x xs) w) := by
  refine (axis_list ⟨#[82, 101, 100, 117, 99, 101, 77, 97, 120]⟩ (by kernel_rfl) a 1 w ha).mono ?_
  rintro e w' ⟨iv, s, av, rfl, hg, hs, hi, hat⟩
  exact ⟨iv, av, rfl, hg, fun wx u T0 ht hx hv' => by
    rw [← ht, max_s _ _ s]
    exact max_do ⟨⟨#[82, 101, 100, 117, 99, 101, 77, 97, 120]⟩, ⟨#[]⟩, iv, ⟨#[122]⟩, av⟩ (kpAt ⟨#[82, 101, 100, 117, 99, 101, 77, 97, 120]⟩ 1 s [a]) ⟨#[120]⟩ rfl u T0 x xs wx (hl.more (grown_trans hg hx)) (two_in (hs.more hx) (has_i wx _ _) (has_l (hi.more hx)) (by show 0 ≤ 1048576; omega) (by show 0 ≤ 1048576; omega) (hat.more hx)) (two_ok (has_i wx _ _) (has_l (hi.more hx)) (by show -9223372036854775808 ≤ (1 : Int) ∧ (1 : Int) ≤ 9223372036854775807; omega) (by show -9223372036854775808 ≤ (0 : Int) ∧ (0 : Int) ≤ 9223372036854775807; omega) (hat.more hx)) (kp_check2 _ _ _) (kp_then _ _ _ _) (by show 1 ≤ 1048576; omega) hv'⟩

set_option maxRecDepth 100000 in
set_option maxHeartbeats 16000000 in
theorem reduceMost_walk (X : Ten) {x xs : List Int} (a b : Int) (w : World) (hl : Laid w) (hx : IsInts w X.dv.v x) (hxs : IsInts w X.tv.v xs) (ha1 : -9223372036854775808 ≤ a) (ha2 : a ≤ 9223372036854775807) (hb1 : -9223372036854775808 ≤ b) (hb2 : b ≤ 9223372036854775807) : Calls Tryz.prog 5 #[tval X, .int .i64 a, .int .i64 b] w fun e w' => e = .returned (.bool true) ∧ Below w.heap.size w w' := by
  have HL := hide hl
  have HX := hide hx
  have HXS := hide hxs
  obtain ⟨_, _, ex, -⟩ := hx.sl
  clear hl hx hxs
  obtain ⟨tx, ⟨xa, xn, xc⟩, ⟨ua, un, uc⟩⟩ := X
  simp only [Sl.v, Value.slice.injEq] at ex
  obtain ⟨-, rfl, -⟩ := ex
  unfold tval
  simp only [Sl.v] at HX HXS ⊢
  obtain ⟨w0, hw0⟩ : ∃ w0, w0 = w.alloc (.cells #[.int .i64 tx, .slice xa x.length xc, .slice ua un uc] 25) := ⟨_, rfl⟩
  obtain ⟨hbx, Z0⟩ := new_alloc (.cells #[.int .i64 tx, .slice xa x.length xc, .slice ua un uc] 25) (x := w) rfl
  rw [← hw0] at hbx Z0
  have g0 : w.grownBy w0 none := by rw [hw0]; exact grown_new _ _
  have BX : Hid (∀ wx, w0.grownBy wx none → wx.heap[w.heap.size]? = some (.cells #[.int .i64 tx, .slice xa x.length xc, .slice ua un uc] 25 (0, 0))) := fun wx hx => box_kept hbx hx
  have LV : Hid (∀ wx, w.grownBy wx none → Calls Tryz.prog 8 #[] wx fun e w' => e = .returned (.bool true) ∧ wx.grownBy w' none) := fun wx hx => live11_any wx (HL.out.more hx)
  obtain ⟨wS, hwS⟩ : ∃ wS, wS = w0.alloc (.cells #[.int .i64 tx, .slice xa x.length xc, .slice ua un uc] 25) := ⟨_, rfl⟩
  obtain ⟨bS, -⟩ := new_alloc (.cells #[.int .i64 tx, .slice xa x.length xc, .slice ua un uc] 25) Z0
  rw [← hwS] at bS
  have gS : w0.grownBy wS none := by rw [hwS]; exact grown_new _ _
  have GS := hide (grown_trans g0 gS)
  have GS0 := hide gS
  have SM := hide (small11_any ⟨some ⟨w.heap.size + 1, 0, none⟩, 1, 1⟩ _ wS (one_ten ⟨tx, ⟨xa, x.length, xc⟩, ⟨ua, un, uc⟩⟩ bS (HX.out.more GS.out) (HXS.out.more GS.out)))
  simp only at SM
  obtain ⟨x0, x1, x2⟩ := ten_cells hbx
  rw [hw0] at x0 x1 x2
  have G0 := hide g0
  clear hbx bS Z0 g0 gS
  go_enter Tryz.func5, Tryz.ntmps5
  go_wp2_with fail
  rw [← hw0, ← hwS]
  clear hw0 hwS x0 x1 x2
  refine SM.out.mono ?_
  rintro e w1 ⟨bb, rfl, hg1⟩
  have G1 := hide (grown_trans GS.out hg1)
  have G01 := hide (grown_trans GS0.out hg1)
  have L1 := hide (LV.out w1 G1.out)
  obtain ⟨x0, x1, x2⟩ := ten_cells (BX.out w1 G01.out)
  clear hg1 SM
  cases bb with
  | false =>
    go_wp2_with fail
    refine L1.out.mono ?_
    rintro e w2 ⟨rfl, hg2⟩
    go_wp2
    go_ret
    exact ⟨rfl, grown_below (grown_trans G1.out hg2)⟩
  | true =>
    obtain ⟨r1, hr1⟩ : ∃ r, r = maxR (kpAt ⟨#[82, 101, 100, 117, 99, 101, 77, 97, 120]⟩ 1 nilS [a]) tx x xs := ⟨_, rfl⟩
    have KA : Hid (∀ v, w1.grownBy v none → Calls Tryz.prog 10 #[.string ⟨#[82, 101, 100, 117, 99, 101, 77, 97, 120]⟩, .int .i64 a, .int .i64 1] v (NodeQ ⟨#[82, 101, 100, 117, 99, 101, 77, 97, 120]⟩ tx x xs r1 v)) := fun v hv => by rw [hr1]; exact node_max tx a x xs ⟨ha1, ha2⟩ v (HL.out.more (grown_trans G1.out hv))
    have HR1 := hide hr1
    have GR := hide G1.out
    clear hr1 L1
    go_upto_region 3 with fail
    go_cut [7, 8] from 19 to 27 (fun t5 t6 wx => w1.grownBy wx none ∧ ∃ (B : Nat) (dv tv : Sl), t5 = .pointer (some ⟨B, 0, none⟩) ∧ t6 = .int .i64 (rC r1) ∧ w1.heap.size ≤ B ∧ wx.heap[B]? = some (.cells #[.int .i64 (rTy r1), .slice dv.a dv.n dv.c, .slice tv.a tv.n tv.c] 25 (0, 0)) ∧ IsInts wx dv.v (rL r1) ∧ IsInts wx tv.v (rZ r1))
    case first =>
      refine wp_region_held_drew (S := fun w' => w1.grownBy w' none) (by kernel_rfl) (grown_drew (grown_refl _)) (fun _ => ?_)
      refine' with_node (N := ∀ (v : World) (ia : Option Addr) (il : Nat) (ic : Nat) (na : Option Addr) (nl : Nat) (nc : Nat) (b4 : Nat) (b9 : Nat), w1.grownBy v none → NodeD ⟨#[82, 101, 100, 117, 99, 101, 77, 97, 120]⟩ tx x xs r1 ⟨ia, il, ic⟩ ⟨na, nl, nc⟩ v → v.heap[b4]? = some (.cells #[.int .i64 tx, .slice xa x.length xc, .slice ua un uc] 25 (0, 0)) → v.heap[b9]? = some (.cells #[.int .i64 0, .slice none 0 0, .slice none 0 0] 25 (0, 0)) → w1.heap.size ≤ b9 → (_ : World → Option Addr → Nat → Nat → Option Addr → Nat → Nat → Nat → Nat → Prop) v ia il ic na nl nc b4 b9) (fun N1_3_8 => ?_) ?_
      rotate_left 1
      refine' with_node (N := ∀ (v : World) (ia : Option Addr) (il : Nat) (ic : Nat) (na : Option Addr) (nl : Nat) (nc : Nat) (b4 : Nat), w1.grownBy v none → NodeD ⟨#[82, 101, 100, 117, 99, 101, 77, 97, 120]⟩ tx x xs r1 ⟨ia, il, ic⟩ ⟨na, nl, nc⟩ v → v.heap[b4]? = some (.cells #[.int .i64 tx, .slice xa x.length xc, .slice ua un uc] 25 (0, 0)) → (_ : World → Option Addr → Nat → Nat → Option Addr → Nat → Nat → Nat → Prop) v ia il ic na nl nc b4) (fun N1_3 => ?_) ?_
      rotate_left 1
      refine' with_node (N := ∀ (v : World) (ia : Option Addr) (il : Nat) (ic : Nat) (na : Option Addr) (nl : Nat) (nc : Nat) (b9 : Nat), w1.grownBy v none → NodeD ⟨#[82, 101, 100, 117, 99, 101, 77, 97, 120]⟩ tx x xs r1 ⟨ia, il, ic⟩ ⟨na, nl, nc⟩ v → v.heap[b9]? = some (.cells #[.int .i64 0, .slice none 0 0, .slice none 0 0] 25 (0, 0)) → w1.heap.size ≤ b9 → (_ : World → Option Addr → Nat → Nat → Option Addr → Nat → Nat → Nat → Prop) v ia il ic na nl nc b9) (fun N1_8 => ?_) ?_
      rotate_left 1
      refine' with_node (N := ∀ (v : World) (b4 : Nat) (b9 : Nat), w1.grownBy v none → v.heap[b4]? = some (.cells #[.int .i64 tx, .slice xa x.length xc, .slice ua un uc] 25 (0, 0)) → v.heap[b9]? = some (.cells #[.int .i64 0, .slice none 0 0, .slice none 0 0] 25 (0, 0)) → w1.heap.size ≤ b9 → (_ : World → Nat → Nat → Prop) v b4 b9) (fun N3_8 => ?_) ?_
      rotate_left 1
      refine' with_node (N := ∀ (v : World) (ia : Option Addr) (il : Nat) (ic : Nat) (na : Option Addr) (nl : Nat) (nc : Nat), w1.grownBy v none → NodeD ⟨#[82, 101, 100, 117, 99, 101, 77, 97, 120]⟩ tx x xs r1 ⟨ia, il, ic⟩ ⟨na, nl, nc⟩ v → (_ : World → Option Addr → Nat → Nat → Option Addr → Nat → Nat → Prop) v ia il ic na nl nc) (fun N1 => ?_) ?_
      rotate_left 1
      refine' with_node (N := ∀ (v : World) (b4 : Nat), w1.grownBy v none → v.heap[b4]? = some (.cells #[.int .i64 tx, .slice xa x.length xc, .slice ua un uc] 25 (0, 0)) → (_ : World → Nat → Prop) v b4) (fun N3 => ?_) ?_
      rotate_left 1
      refine' with_node (N := ∀ (v : World) (b9 : Nat), w1.grownBy v none → v.heap[b9]? = some (.cells #[.int .i64 0, .slice none 0 0, .slice none 0 0] 25 (0, 0)) → w1.heap.size ≤ b9 → (_ : World → Nat → Prop) v b9) (fun N8 => ?_) ?_
      rotate_left 1
      · have g : w1.grownBy w1.drew none := grown_drew (grown_refl _)
        generalize hv : w1.drew = v at g ⊢
        clear hv
        refine wpAnyH_take (i := 0) (v := ?_) rfl (by kernel_rfl) (by kernel_rfl) (by kernel_rfl) (fun _ _ _ h => h) (Or.inl ⟨by kernel_rfl, ?_⟩) (by assumption) ?_
        rotate_left 1
        · (intro wS hSw; go_simp; (try with_reducible rfl))
        try simp only [Act.put]
        refine wpAnyH_take (i := 2) (v := ?_) rfl (by kernel_rfl) (by kernel_rfl) (by kernel_rfl) (fun _ _ _ h => h) (Or.inl ⟨by kernel_rfl, ?_⟩) (by assumption) ?_
        rotate_left 1
        · (intro wS hSw; have c0 := cell_still x0 hSw; have c1 := cell_still x1 hSw; have c2 := cell_still x2 hSw; go_simp; (try with_reducible rfl))
        try simp only [Act.put]
        refine wpAnyH_ready (rs := [1, 3, 8]) (by kernel_rfl) (by simp) ?_
        refine AllReadyH.cons rfl (fun K hK => ?_) ?_
        · go_simp
          refine (KA.out v g).mono ?_
          rintro e u ⟨⟨ia, il, ic⟩, ⟨na, nl, nc⟩, rfl, gs, h2⟩
          replace h2 : NodeD ⟨#[82, 101, 100, 117, 99, 101, 77, 97, 120]⟩ tx x xs r1 ⟨ia, il, ic⟩ ⟨na, nl, nc⟩ u := h2
          simp only
          have gn := grown_trans g gs
          refine hK.out _ _ gn (fun hHeld => ?_)
          clear hK K
          try simp only [Act.put]
          clear g gs hHeld
          exact N1 u ia il ic na nl nc gn h2
        refine AllReadyH.cons rfl (fun K hK => ?_) ?_
        · go_simp
          have h4 := heap_alloc_new v (.cells #[.int .i64 tx, .slice xa x.length xc, .slice ua un uc] 25)
          have gs := grown_new v (.cells #[.int .i64 tx, .slice xa x.length xc, .slice ua un uc] 25)
          generalize hvn : v.alloc (.cells #[.int .i64 tx, .slice xa x.length xc, .slice ua un uc] 25) = u at h4 gs ⊢
          clear hvn
          generalize v.heap.size = b4 at h4 ⊢
          have gn := grown_trans g gs
          refine hK.out _ _ gn (fun hHeld => ?_)
          clear hK K
          try simp only [Act.put]
          clear g gs hHeld
          exact N3 u b4 gn h4
        refine AllReadyH.cons rfl (fun K hK => ?_) ?_
        · have hb9 := g.size
          go_simp
          have h9 := heap_alloc_new v (.cells #[.int .i64 0, .slice none 0 0, .slice none 0 0] 25)
          have gs := grown_new v (.cells #[.int .i64 0, .slice none 0 0, .slice none 0 0] 25)
          generalize hvn : v.alloc (.cells #[.int .i64 0, .slice none 0 0, .slice none 0 0] 25) = u at h9 gs ⊢
          clear hvn
          generalize v.heap.size = b9 at h9 hb9 ⊢
          have gn := grown_trans g gs
          refine hK.out _ _ gn (fun hHeld => ?_)
          clear hK K
          try simp only [Act.put]
          clear g gs hHeld
          exact N8 u b9 gn h9 hb9
        exact AllReadyH.nil
      · intro v b9 g h9 hb9
        refine wpAnyH_ready (rs := [1, 3]) (by kernel_rfl) (by simp) ?_
        refine AllReadyH.cons rfl (fun K hK => ?_) ?_
        · go_simp
          refine (KA.out v g).mono ?_
          rintro e u ⟨⟨ia, il, ic⟩, ⟨na, nl, nc⟩, rfl, gs, h2⟩
          replace h2 : NodeD ⟨#[82, 101, 100, 117, 99, 101, 77, 97, 120]⟩ tx x xs r1 ⟨ia, il, ic⟩ ⟨na, nl, nc⟩ u := h2
          simp only
          have gn := grown_trans g gs
          refine hK.out _ _ gn (fun hHeld => ?_)
          clear hK K
          try simp only [Act.put]
          have h9 := box_kept h9 gs
          clear g gs hHeld
          exact N1_8 u ia il ic na nl nc b9 gn h2 h9 hb9
        refine AllReadyH.cons rfl (fun K hK => ?_) ?_
        · go_simp
          have h4 := heap_alloc_new v (.cells #[.int .i64 tx, .slice xa x.length xc, .slice ua un uc] 25)
          have gs := grown_new v (.cells #[.int .i64 tx, .slice xa x.length xc, .slice ua un uc] 25)
          generalize hvn : v.alloc (.cells #[.int .i64 tx, .slice xa x.length xc, .slice ua un uc] 25) = u at h4 gs ⊢
          clear hvn
          generalize v.heap.size = b4 at h4 ⊢
          have gn := grown_trans g gs
          refine hK.out _ _ gn (fun hHeld => ?_)
          clear hK K
          try simp only [Act.put]
          have h9 := box_kept h9 gs
          clear g gs hHeld
          exact N3_8 u b4 b9 gn h4 h9 hb9
        exact AllReadyH.nil
      · intro v b4 g h4
        refine wpAnyH_ready (rs := [1, 8]) (by kernel_rfl) (by simp) ?_
        refine AllReadyH.cons rfl (fun K hK => ?_) ?_
        · go_simp
          refine (KA.out v g).mono ?_
          rintro e u ⟨⟨ia, il, ic⟩, ⟨na, nl, nc⟩, rfl, gs, h2⟩
          replace h2 : NodeD ⟨#[82, 101, 100, 117, 99, 101, 77, 97, 120]⟩ tx x xs r1 ⟨ia, il, ic⟩ ⟨na, nl, nc⟩ u := h2
          simp only
          have gn := grown_trans g gs
          refine hK.out _ _ gn (fun hHeld => ?_)
          clear hK K
          try simp only [Act.put]
          have h4 := box_kept h4 gs
          clear g gs hHeld
          exact N1_3 u ia il ic na nl nc b4 gn h2 h4
        refine AllReadyH.cons rfl (fun K hK => ?_) ?_
        · have hb9 := g.size
          go_simp
          have h9 := heap_alloc_new v (.cells #[.int .i64 0, .slice none 0 0, .slice none 0 0] 25)
          have gs := grown_new v (.cells #[.int .i64 0, .slice none 0 0, .slice none 0 0] 25)
          generalize hvn : v.alloc (.cells #[.int .i64 0, .slice none 0 0, .slice none 0 0] 25) = u at h9 gs ⊢
          clear hvn
          generalize v.heap.size = b9 at h9 hb9 ⊢
          have gn := grown_trans g gs
          refine hK.out _ _ gn (fun hHeld => ?_)
          clear hK K
          try simp only [Act.put]
          have h4 := box_kept h4 gs
          clear g gs hHeld
          refine cast ?_ (N3_8 u b4 b9 gn h4 h9 hb9)
          kernel_rfl
        exact AllReadyH.nil
      · intro v ia il ic na nl nc g h2
        refine wpAnyH_ready (rs := [3, 8]) (by kernel_rfl) (by simp) ?_
        refine AllReadyH.cons rfl (fun K hK => ?_) ?_
        · go_simp
          have h4 := heap_alloc_new v (.cells #[.int .i64 tx, .slice xa x.length xc, .slice ua un uc] 25)
          have gs := grown_new v (.cells #[.int .i64 tx, .slice xa x.length xc, .slice ua un uc] 25)
          generalize hvn : v.alloc (.cells #[.int .i64 tx, .slice xa x.length xc, .slice ua un uc] 25) = u at h4 gs ⊢
          clear hvn
          generalize v.heap.size = b4 at h4 ⊢
          have gn := grown_trans g gs
          refine hK.out _ _ gn (fun hHeld => ?_)
          clear hK K
          try simp only [Act.put]
          have h2 := h2.more gs
          clear g gs hHeld
          refine cast ?_ (N1_3 u ia il ic na nl nc b4 gn h2 h4)
          kernel_rfl
        refine AllReadyH.cons rfl (fun K hK => ?_) ?_
        · have hb9 := g.size
          go_simp
          have h9 := heap_alloc_new v (.cells #[.int .i64 0, .slice none 0 0, .slice none 0 0] 25)
          have gs := grown_new v (.cells #[.int .i64 0, .slice none 0 0, .slice none 0 0] 25)
          generalize hvn : v.alloc (.cells #[.int .i64 0, .slice none 0 0, .slice none 0 0] 25) = u at h9 gs ⊢
          clear hvn
          generalize v.heap.size = b9 at h9 hb9 ⊢
          have gn := grown_trans g gs
          refine hK.out _ _ gn (fun hHeld => ?_)
          clear hK K
          try simp only [Act.put]
          have h2 := h2.more gs
          clear g gs hHeld
          refine cast ?_ (N1_8 u ia il ic na nl nc b9 gn h2 h9 hb9)
          kernel_rfl
        exact AllReadyH.nil
      · intro v b4 b9 g h4 h9 hb9
        refine wpAnyH_ready (rs := [1]) (by kernel_rfl) (by simp) ?_
        refine AllReadyH.cons rfl (fun K hK => ?_) ?_
        · go_simp
          refine (KA.out v g).mono ?_
          rintro e u ⟨⟨ia, il, ic⟩, ⟨na, nl, nc⟩, rfl, gs, h2⟩
          replace h2 : NodeD ⟨#[82, 101, 100, 117, 99, 101, 77, 97, 120]⟩ tx x xs r1 ⟨ia, il, ic⟩ ⟨na, nl, nc⟩ u := h2
          simp only
          have gn := grown_trans g gs
          refine hK.out _ _ gn (fun hHeld => ?_)
          clear hK K
          try simp only [Act.put]
          have h4 := box_kept h4 gs
          have h9 := box_kept h9 gs
          clear g gs hHeld
          exact N1_3_8 u ia il ic na nl nc b4 b9 gn h2 h4 h9 hb9
        exact AllReadyH.nil
      · intro v ia il ic na nl nc b9 g h2 h9 hb9
        refine wpAnyH_ready (rs := [3]) (by kernel_rfl) (by simp) ?_
        refine AllReadyH.cons rfl (fun K hK => ?_) ?_
        · go_simp
          have h4 := heap_alloc_new v (.cells #[.int .i64 tx, .slice xa x.length xc, .slice ua un uc] 25)
          have gs := grown_new v (.cells #[.int .i64 tx, .slice xa x.length xc, .slice ua un uc] 25)
          generalize hvn : v.alloc (.cells #[.int .i64 tx, .slice xa x.length xc, .slice ua un uc] 25) = u at h4 gs ⊢
          clear hvn
          generalize v.heap.size = b4 at h4 ⊢
          have gn := grown_trans g gs
          refine hK.out _ _ gn (fun hHeld => ?_)
          clear hK K
          try simp only [Act.put]
          have h2 := h2.more gs
          have h9 := box_kept h9 gs
          clear g gs hHeld
          refine cast ?_ (N1_3_8 u ia il ic na nl nc b4 b9 gn h2 h4 h9 hb9)
          kernel_rfl
        exact AllReadyH.nil
      · intro v ia il ic na nl nc b4 g h2 h4
        refine wpAnyH_ready (rs := [4, 8]) (by kernel_rfl) (by simp) ?_
        refine AllReadyH.cons rfl (fun K hK => ?_) ?_
        · go_simp
          refine (h2 v ⟨some ⟨b4, 0, none⟩, 1, 1⟩ ⟨tx, ⟨xa, x.length, xc⟩, ⟨ua, un, uc⟩⟩ rfl (grown_refl _) (one_ten _ h4 (HX.out.more (grown_trans G1.out g)) (HXS.out.more (grown_trans G1.out g)))).mono ?_
          intro e u hq
          obtain ⟨hgd, ⟨ma, mn, mc⟩, ⟨md, mm, mk⟩, rfl, hla⟩ := do_pastR hq
          have gn := grown_trans g hgd
          refine hK.out _ _ gn (fun hHeld => ?_)
          clear hK K
          try simp only
          skip
          refine wpAnyH_take (i := 5) (v := ?_) rfl (by kernel_rfl) (by kernel_rfl) (by kernel_rfl) (fun _ _ _ h => h) (Or.inl ⟨by kernel_rfl, ?_⟩) (by assumption) ?_
          rotate_left 1
          · (intro wS hSw; go_simp; (try with_reducible rfl))
          try simp only [Act.put]
          refine wpAnyH_take (i := 6) (v := ?_) rfl (by kernel_rfl) (by kernel_rfl) (by kernel_rfl) (fun _ _ _ h => h) (Or.inl ⟨by kernel_rfl, ?_⟩) (by assumption) ?_
          rotate_left 1
          · (intro wS hSw; go_simp; (try with_reducible rfl))
          try simp only [Act.put]
          refine wpAnyH_take (i := 7) (v := ?_) rfl (by kernel_rfl) (by kernel_rfl) (by kernel_rfl) (fun _ _ _ h => h) (Or.inl ⟨by kernel_rfl, ?_⟩) (by assumption) ?_
          rotate_left 1
          · (intro wS hSw; go_simp; (try with_reducible rfl))
          try simp only [Act.put]
          refine wpAnyH_ready (rs := [8]) (by kernel_rfl) (by simp) ?_
          refine AllReadyH.cons rfl (fun K hK => ?_) AllReadyH.nil
          go_simp
          have kB := heap_alloc_new u (.cells #[.int .i64 0, .slice none 0 0, .slice none 0 0] 25)
          have gs := grown_new u (.cells #[.int .i64 0, .slice none 0 0, .slice none 0 0] 25)
          have hb9 := gn.size
          have LB : Hid (∀ wx, u.grownBy wx none → IsInts wx (.slice ma mn mc) (rL r1) ∧ IsInts wx (.slice md mm mk) (rZ r1)) := fun wx hx => hla v.heap.size.pred wx (Nat.pred_lt (by have := (Array.getElem?_eq_some_iff.1 h4).1; omega)) ⟨hx.1, hx.2, hx.3, hx.4, fun i hi _ => hx.5 i hi (by simp)⟩
          have gn2 := grown_trans gn gs
          refine hK.out _ _ gn2 (fun hHeld => ?_)
          clear hK K
          try simp only [Act.put]
          generalize hvn : u.alloc (.cells #[.int .i64 0, .slice none 0 0, .slice none 0 0] 25) = y at kB gs gn2 hHeld ⊢
          clear hvn
          obtain ⟨b9, hb⟩ : ∃ b, b = u.heap.size := ⟨_, rfl⟩
          have LC : Hid (∀ wx, y.grownBy wx (some b9) → IsInts wx (.slice ma mn mc) (rL r1) ∧ IsInts wx (.slice md mm mk) (rZ r1)) := fun wx hx => LB.out wx (grown_drop gs hx (by rw [hb]; exact Nat.le_refl _))
          rw [← hb] at kB hb9 ⊢
          clear hb LB gs
          replace LB := LC
          replace gn := gn2
          clear LC gn2
          obtain ⟨k0, k1, k2⟩ := ten_cells kB
          obtain ⟨f0, f1, f2⟩ := ten_frozen kB
          obtain ⟨st, sg⟩ := store3t (.int .i64 (rTy r1)) (.slice ma mn mc) (.slice md mm mk) kB
          refine wpAnyH_ready (rs := [9]) (by kernel_rfl) (by simp) ?_
          refine AllReadyH.cons rfl (fun K hK => ?_) AllReadyH.nil
          go_simp
          have gz := grown_drop gn sg hb9
          refine hK.out _ _ gz (fun hHeld => ?_)
          clear hK K
          try simp only [Act.put]
          refine wpAnyH_take (i := 10) (v := ?_) rfl (by kernel_rfl) (by kernel_rfl) (by kernel_rfl) (fun _ _ _ h => h) (Or.inl ⟨by kernel_rfl, ?_⟩) (by assumption) ?_
          rotate_left 1
          · (intro wS hSw; go_simp; (try with_reducible rfl))
          try simp only [Act.put]
          refine wpAnyH_done (by kernel_rfl) ?_ _
          have RE := LB.out _ sg
          clear h2 h4 hq hla kB k0 k1 k2 f0 f1 f2 g gn hHeld
          go_simp
          go_wp2_with fail
          go_meet
          exact ⟨gz, b9, ⟨ma, mn, mc⟩, ⟨md, mm, mk⟩, rfl, rfl, hb9, st, RE.1, RE.2⟩
        refine AllReadyH.cons rfl (fun K hK => ?_) ?_
        · have hb9 := g.size
          go_simp
          have h9 := heap_alloc_new v (.cells #[.int .i64 0, .slice none 0 0, .slice none 0 0] 25)
          have gs := grown_new v (.cells #[.int .i64 0, .slice none 0 0, .slice none 0 0] 25)
          generalize hvn : v.alloc (.cells #[.int .i64 0, .slice none 0 0, .slice none 0 0] 25) = u at h9 gs ⊢
          clear hvn
          generalize v.heap.size = b9 at h9 hb9 ⊢
          have gn := grown_trans g gs
          refine hK.out _ _ gn (fun hHeld => ?_)
          clear hK K
          try simp only [Act.put]
          have h2 := h2.more gs
          have h4 := box_kept h4 gs
          clear g gs hHeld
          refine cast ?_ (N1_3_8 u ia il ic na nl nc b4 b9 gn h2 h4 h9 hb9)
          kernel_rfl
        exact AllReadyH.nil
      · intro v ia il ic na nl nc b4 b9 g h2 h4 h9 hb9
        refine wpAnyH_ready (rs := [4]) (by kernel_rfl) (by simp) ?_
        refine AllReadyH.cons rfl (fun K hK => ?_) ?_
        · go_simp
          refine (h2 v ⟨some ⟨b4, 0, none⟩, 1, 1⟩ ⟨tx, ⟨xa, x.length, xc⟩, ⟨ua, un, uc⟩⟩ rfl (grown_refl _) (one_ten _ h4 (HX.out.more (grown_trans G1.out g)) (HXS.out.more (grown_trans G1.out g)))).mono ?_
          intro e u hq
          obtain ⟨hgd, ⟨ma, mn, mc⟩, ⟨md, mm, mk⟩, rfl, hla⟩ := do_pastR hq
          have gn := grown_trans g hgd
          refine hK.out _ _ gn (fun hHeld => ?_)
          clear hK K
          try simp only
          have kB := box_kept h9 hgd
          have LB : Hid (∀ wx, u.grownBy wx (some b9) → IsInts wx (.slice ma mn mc) (rL r1) ∧ IsInts wx (.slice md mm mk) (rZ r1)) := fun wx hx => hla b9 wx (Array.getElem?_eq_some_iff.1 h9).1 hx
          refine wpAnyH_take (i := 5) (v := ?_) rfl (by kernel_rfl) (by kernel_rfl) (by kernel_rfl) (fun _ _ _ h => h) (Or.inl ⟨by kernel_rfl, ?_⟩) (by assumption) ?_
          rotate_left 1
          · (intro wS hSw; go_simp; (try with_reducible rfl))
          try simp only [Act.put]
          refine wpAnyH_take (i := 6) (v := ?_) rfl (by kernel_rfl) (by kernel_rfl) (by kernel_rfl) (fun _ _ _ h => h) (Or.inl ⟨by kernel_rfl, ?_⟩) (by assumption) ?_
          rotate_left 1
          · (intro wS hSw; go_simp; (try with_reducible rfl))
          try simp only [Act.put]
          refine wpAnyH_take (i := 7) (v := ?_) rfl (by kernel_rfl) (by kernel_rfl) (by kernel_rfl) (fun _ _ _ h => h) (Or.inl ⟨by kernel_rfl, ?_⟩) (by assumption) ?_
          rotate_left 1
          · (intro wS hSw; go_simp; (try with_reducible rfl))
          try simp only [Act.put]
          obtain ⟨k0, k1, k2⟩ := ten_cells kB
          obtain ⟨f0, f1, f2⟩ := ten_frozen kB
          obtain ⟨st, sg⟩ := store3t (.int .i64 (rTy r1)) (.slice ma mn mc) (.slice md mm mk) kB
          refine wpAnyH_ready (rs := [9]) (by kernel_rfl) (by simp) ?_
          refine AllReadyH.cons rfl (fun K hK => ?_) AllReadyH.nil
          go_simp
          have gz := grown_drop gn sg hb9
          refine hK.out _ _ gz (fun hHeld => ?_)
          clear hK K
          try simp only [Act.put]
          refine wpAnyH_take (i := 10) (v := ?_) rfl (by kernel_rfl) (by kernel_rfl) (by kernel_rfl) (fun _ _ _ h => h) (Or.inl ⟨by kernel_rfl, ?_⟩) (by assumption) ?_
          rotate_left 1
          · (intro wS hSw; go_simp; (try with_reducible rfl))
          try simp only [Act.put]
          refine wpAnyH_done (by kernel_rfl) ?_ _
          have RE := LB.out _ sg
          clear h2 h4 h9 hq hla kB k0 k1 k2 f0 f1 f2 g gn hHeld
          go_simp
          go_wp2_with fail
          go_meet
          exact ⟨gz, b9, ⟨ma, mn, mc⟩, ⟨md, mm, mk⟩, rfl, rfl, hb9, st, RE.1, RE.2⟩
        exact AllReadyH.nil
    case rest =>
    obtain ⟨hgc, B1, ⟨aa, an, ac⟩, ⟨ad, am, ak⟩, rfl, rfl, hB0, hb0, ia, ja⟩ := hcut
    obtain ⟨wA, ewA⟩ : ∃ z, z = wc := ⟨_, rfl⟩
    subst ewA
    simp only [Sl.v] at hb0 ia ja
    have GA := hide (grown_trans G1.out hgc)
    have GA0 := hide (grown_trans G01.out hgc)
    have LA := hide (LV.out wA GA.out)
    have HB1 := hide hb0
    have IA := hide ia
    have JA := hide ja
    clear hgc hB0 hb0 ia ja KA GR x0 x1 x2
    cases r1 with
    | error c =>
      have hc0 : (rC (Except.error c : R (Int × List Int × List Int)) != 0) = true := by
        have hn : c ≠ 0 := nz_maxR _ _ _ _ c HR1.out.symm
        simpa [rC] using hn
      go_wp2_with fail
      refine LA.out.mono ?_
      rintro e u4 ⟨rfl, hg4⟩
      go_wp2
      go_ret
      exact ⟨rfl, grown_below (grown_trans GA.out hg4)⟩
    | ok rr1 =>
      obtain ⟨t1, xx1, xs1⟩ := rr1
      have hc0 : (rC (Except.ok (t1, xx1, xs1) : R (Int × List Int × List Int)) != 0) = false := rfl
      simp only [rTy, rL, rZ] at HB1 IA JA
      obtain ⟨r2, hr2⟩ : ∃ r, r = maxR (kpAt ⟨#[82, 101, 100, 117, 99, 101, 77, 97, 120]⟩ 1 nilS [b]) t1 xx1 xs1 := ⟨_, rfl⟩
      have KB : Hid (∀ v, wA.grownBy v none → Calls Tryz.prog 10 #[.string ⟨#[82, 101, 100, 117, 99, 101, 77, 97, 120]⟩, .int .i64 b, .int .i64 1] v (NodeQ ⟨#[82, 101, 100, 117, 99, 101, 77, 97, 120]⟩ t1 xx1 xs1 r2 v)) := fun v hv => by rw [hr2]; exact node_max t1 b xx1 xs1 ⟨hb1, hb2⟩ v (HL.out.more (grown_trans GA.out hv))
      have HR2 := hide hr2
      obtain ⟨y0, y1, y2⟩ := ten_cells HB1.out
      clear hr2 LA
      go_upto_region 6 with fail
      clear hc0
      go_cut [9, 10] from 30 to 38 (fun t5 t6 wx => wA.grownBy wx none ∧ ∃ (B : Nat) (dv tv : Sl), t5 = .pointer (some ⟨B, 0, none⟩) ∧ t6 = .int .i64 (rC r2) ∧ wA.heap.size ≤ B ∧ wx.heap[B]? = some (.cells #[.int .i64 (rTy r2), .slice dv.a dv.n dv.c, .slice tv.a tv.n tv.c] 25 (0, 0)) ∧ IsInts wx dv.v (rL r2) ∧ IsInts wx tv.v (rZ r2))
      case first =>
        refine wp_region_held_drew (S := fun w' => wA.grownBy w' none) (by kernel_rfl) (grown_drew (grown_refl _)) (fun _ => ?_)
        refine' with_node (N := ∀ (v : World) (ia : Option Addr) (il : Nat) (ic : Nat) (na : Option Addr) (nl : Nat) (nc : Nat) (b4 : Nat) (b9 : Nat), wA.grownBy v none → NodeD ⟨#[82, 101, 100, 117, 99, 101, 77, 97, 120]⟩ t1 xx1 xs1 r2 ⟨ia, il, ic⟩ ⟨na, nl, nc⟩ v → v.heap[b4]? = some (.cells #[.int .i64 t1, .slice aa an ac, .slice ad am ak] 25 (0, 0)) → v.heap[b9]? = some (.cells #[.int .i64 0, .slice none 0 0, .slice none 0 0] 25 (0, 0)) → wA.heap.size ≤ b9 → (_ : World → Option Addr → Nat → Nat → Option Addr → Nat → Nat → Nat → Nat → Prop) v ia il ic na nl nc b4 b9) (fun N1_3_8 => ?_) ?_
        rotate_left 1
        refine' with_node (N := ∀ (v : World) (ia : Option Addr) (il : Nat) (ic : Nat) (na : Option Addr) (nl : Nat) (nc : Nat) (b4 : Nat), wA.grownBy v none → NodeD ⟨#[82, 101, 100, 117, 99, 101, 77, 97, 120]⟩ t1 xx1 xs1 r2 ⟨ia, il, ic⟩ ⟨na, nl, nc⟩ v → v.heap[b4]? = some (.cells #[.int .i64 t1, .slice aa an ac, .slice ad am ak] 25 (0, 0)) → (_ : World → Option Addr → Nat → Nat → Option Addr → Nat → Nat → Nat → Prop) v ia il ic na nl nc b4) (fun N1_3 => ?_) ?_
        rotate_left 1
        refine' with_node (N := ∀ (v : World) (ia : Option Addr) (il : Nat) (ic : Nat) (na : Option Addr) (nl : Nat) (nc : Nat) (b9 : Nat), wA.grownBy v none → NodeD ⟨#[82, 101, 100, 117, 99, 101, 77, 97, 120]⟩ t1 xx1 xs1 r2 ⟨ia, il, ic⟩ ⟨na, nl, nc⟩ v → v.heap[b9]? = some (.cells #[.int .i64 0, .slice none 0 0, .slice none 0 0] 25 (0, 0)) → wA.heap.size ≤ b9 → (_ : World → Option Addr → Nat → Nat → Option Addr → Nat → Nat → Nat → Prop) v ia il ic na nl nc b9) (fun N1_8 => ?_) ?_
        rotate_left 1
        refine' with_node (N := ∀ (v : World) (b4 : Nat) (b9 : Nat), wA.grownBy v none → v.heap[b4]? = some (.cells #[.int .i64 t1, .slice aa an ac, .slice ad am ak] 25 (0, 0)) → v.heap[b9]? = some (.cells #[.int .i64 0, .slice none 0 0, .slice none 0 0] 25 (0, 0)) → wA.heap.size ≤ b9 → (_ : World → Nat → Nat → Prop) v b4 b9) (fun N3_8 => ?_) ?_
        rotate_left 1
        refine' with_node (N := ∀ (v : World) (ia : Option Addr) (il : Nat) (ic : Nat) (na : Option Addr) (nl : Nat) (nc : Nat), wA.grownBy v none → NodeD ⟨#[82, 101, 100, 117, 99, 101, 77, 97, 120]⟩ t1 xx1 xs1 r2 ⟨ia, il, ic⟩ ⟨na, nl, nc⟩ v → (_ : World → Option Addr → Nat → Nat → Option Addr → Nat → Nat → Prop) v ia il ic na nl nc) (fun N1 => ?_) ?_
        rotate_left 1
        refine' with_node (N := ∀ (v : World) (b4 : Nat), wA.grownBy v none → v.heap[b4]? = some (.cells #[.int .i64 t1, .slice aa an ac, .slice ad am ak] 25 (0, 0)) → (_ : World → Nat → Prop) v b4) (fun N3 => ?_) ?_
        rotate_left 1
        refine' with_node (N := ∀ (v : World) (b9 : Nat), wA.grownBy v none → v.heap[b9]? = some (.cells #[.int .i64 0, .slice none 0 0, .slice none 0 0] 25 (0, 0)) → wA.heap.size ≤ b9 → (_ : World → Nat → Prop) v b9) (fun N8 => ?_) ?_
        rotate_left 1
        · have g : wA.grownBy wA.drew none := grown_drew (grown_refl _)
          generalize hv : wA.drew = v at g ⊢
          clear hv
          refine wpAnyH_take (i := 0) (v := ?_) rfl (by kernel_rfl) (by kernel_rfl) (by kernel_rfl) (fun _ _ _ h => h) (Or.inl ⟨by kernel_rfl, ?_⟩) (by assumption) ?_
          rotate_left 1
          · (intro wS hSw; go_simp; (try with_reducible rfl))
          try simp only [Act.put]
          refine wpAnyH_take (i := 2) (v := ?_) rfl (by kernel_rfl) (by kernel_rfl) (by kernel_rfl) (fun _ _ _ h => h) (Or.inl ⟨by kernel_rfl, ?_⟩) (by assumption) ?_
          rotate_left 1
          · (intro wS hSw; have c0 := cell_still y0 hSw; have c1 := cell_still y1 hSw; have c2 := cell_still y2 hSw; go_simp; (try with_reducible rfl))
          try simp only [Act.put]
          refine wpAnyH_ready (rs := [1, 3, 8]) (by kernel_rfl) (by simp) ?_
          refine AllReadyH.cons rfl (fun K hK => ?_) ?_
          · go_simp
            refine (KB.out v g).mono ?_
            rintro e u ⟨⟨ia, il, ic⟩, ⟨na, nl, nc⟩, rfl, gs, h2⟩
            replace h2 : NodeD ⟨#[82, 101, 100, 117, 99, 101, 77, 97, 120]⟩ t1 xx1 xs1 r2 ⟨ia, il, ic⟩ ⟨na, nl, nc⟩ u := h2
            simp only
            have gn := grown_trans g gs
            refine hK.out _ _ gn (fun hHeld => ?_)
            clear hK K
            try simp only [Act.put]
            clear g gs hHeld
            exact N1 u ia il ic na nl nc gn h2
          refine AllReadyH.cons rfl (fun K hK => ?_) ?_
          · go_simp
            have h4 := heap_alloc_new v (.cells #[.int .i64 t1, .slice aa an ac, .slice ad am ak] 25)
            have gs := grown_new v (.cells #[.int .i64 t1, .slice aa an ac, .slice ad am ak] 25)
            generalize hvn : v.alloc (.cells #[.int .i64 t1, .slice aa an ac, .slice ad am ak] 25) = u at h4 gs ⊢
            clear hvn
            generalize v.heap.size = b4 at h4 ⊢
            have gn := grown_trans g gs
            refine hK.out _ _ gn (fun hHeld => ?_)
            clear hK K
            try simp only [Act.put]
            clear g gs hHeld
            exact N3 u b4 gn h4
          refine AllReadyH.cons rfl (fun K hK => ?_) ?_
          · have hb9 := g.size
            go_simp
            have h9 := heap_alloc_new v (.cells #[.int .i64 0, .slice none 0 0, .slice none 0 0] 25)
            have gs := grown_new v (.cells #[.int .i64 0, .slice none 0 0, .slice none 0 0] 25)
            generalize hvn : v.alloc (.cells #[.int .i64 0, .slice none 0 0, .slice none 0 0] 25) = u at h9 gs ⊢
            clear hvn
            generalize v.heap.size = b9 at h9 hb9 ⊢
            have gn := grown_trans g gs
            refine hK.out _ _ gn (fun hHeld => ?_)
            clear hK K
            try simp only [Act.put]
            clear g gs hHeld
            exact N8 u b9 gn h9 hb9
          exact AllReadyH.nil
        · intro v b9 g h9 hb9
          refine wpAnyH_ready (rs := [1, 3]) (by kernel_rfl) (by simp) ?_
          refine AllReadyH.cons rfl (fun K hK => ?_) ?_
          · go_simp
            refine (KB.out v g).mono ?_
            rintro e u ⟨⟨ia, il, ic⟩, ⟨na, nl, nc⟩, rfl, gs, h2⟩
            replace h2 : NodeD ⟨#[82, 101, 100, 117, 99, 101, 77, 97, 120]⟩ t1 xx1 xs1 r2 ⟨ia, il, ic⟩ ⟨na, nl, nc⟩ u := h2
            simp only
            have gn := grown_trans g gs
            refine hK.out _ _ gn (fun hHeld => ?_)
            clear hK K
            try simp only [Act.put]
            have h9 := box_kept h9 gs
            clear g gs hHeld
            exact N1_8 u ia il ic na nl nc b9 gn h2 h9 hb9
          refine AllReadyH.cons rfl (fun K hK => ?_) ?_
          · go_simp
            have h4 := heap_alloc_new v (.cells #[.int .i64 t1, .slice aa an ac, .slice ad am ak] 25)
            have gs := grown_new v (.cells #[.int .i64 t1, .slice aa an ac, .slice ad am ak] 25)
            generalize hvn : v.alloc (.cells #[.int .i64 t1, .slice aa an ac, .slice ad am ak] 25) = u at h4 gs ⊢
            clear hvn
            generalize v.heap.size = b4 at h4 ⊢
            have gn := grown_trans g gs
            refine hK.out _ _ gn (fun hHeld => ?_)
            clear hK K
            try simp only [Act.put]
            have h9 := box_kept h9 gs
            clear g gs hHeld
            exact N3_8 u b4 b9 gn h4 h9 hb9
          exact AllReadyH.nil
        · intro v b4 g h4
          refine wpAnyH_ready (rs := [1, 8]) (by kernel_rfl) (by simp) ?_
          refine AllReadyH.cons rfl (fun K hK => ?_) ?_
          · go_simp
            refine (KB.out v g).mono ?_
            rintro e u ⟨⟨ia, il, ic⟩, ⟨na, nl, nc⟩, rfl, gs, h2⟩
            replace h2 : NodeD ⟨#[82, 101, 100, 117, 99, 101, 77, 97, 120]⟩ t1 xx1 xs1 r2 ⟨ia, il, ic⟩ ⟨na, nl, nc⟩ u := h2
            simp only
            have gn := grown_trans g gs
            refine hK.out _ _ gn (fun hHeld => ?_)
            clear hK K
            try simp only [Act.put]
            have h4 := box_kept h4 gs
            clear g gs hHeld
            exact N1_3 u ia il ic na nl nc b4 gn h2 h4
          refine AllReadyH.cons rfl (fun K hK => ?_) ?_
          · have hb9 := g.size
            go_simp
            have h9 := heap_alloc_new v (.cells #[.int .i64 0, .slice none 0 0, .slice none 0 0] 25)
            have gs := grown_new v (.cells #[.int .i64 0, .slice none 0 0, .slice none 0 0] 25)
            generalize hvn : v.alloc (.cells #[.int .i64 0, .slice none 0 0, .slice none 0 0] 25) = u at h9 gs ⊢
            clear hvn
            generalize v.heap.size = b9 at h9 hb9 ⊢
            have gn := grown_trans g gs
            refine hK.out _ _ gn (fun hHeld => ?_)
            clear hK K
            try simp only [Act.put]
            have h4 := box_kept h4 gs
            clear g gs hHeld
            refine cast ?_ (N3_8 u b4 b9 gn h4 h9 hb9)
            kernel_rfl
          exact AllReadyH.nil
        · intro v ia il ic na nl nc g h2
          refine wpAnyH_ready (rs := [3, 8]) (by kernel_rfl) (by simp) ?_
          refine AllReadyH.cons rfl (fun K hK => ?_) ?_
          · go_simp
            have h4 := heap_alloc_new v (.cells #[.int .i64 t1, .slice aa an ac, .slice ad am ak] 25)
            have gs := grown_new v (.cells #[.int .i64 t1, .slice aa an ac, .slice ad am ak] 25)
            generalize hvn : v.alloc (.cells #[.int .i64 t1, .slice aa an ac, .slice ad am ak] 25) = u at h4 gs ⊢
            clear hvn
            generalize v.heap.size = b4 at h4 ⊢
            have gn := grown_trans g gs
            refine hK.out _ _ gn (fun hHeld => ?_)
            clear hK K
            try simp only [Act.put]
            have h2 := h2.more gs
            clear g gs hHeld
            refine cast ?_ (N1_3 u ia il ic na nl nc b4 gn h2 h4)
            kernel_rfl
          refine AllReadyH.cons rfl (fun K hK => ?_) ?_
          · have hb9 := g.size
            go_simp
            have h9 := heap_alloc_new v (.cells #[.int .i64 0, .slice none 0 0, .slice none 0 0] 25)
            have gs := grown_new v (.cells #[.int .i64 0, .slice none 0 0, .slice none 0 0] 25)
            generalize hvn : v.alloc (.cells #[.int .i64 0, .slice none 0 0, .slice none 0 0] 25) = u at h9 gs ⊢
            clear hvn
            generalize v.heap.size = b9 at h9 hb9 ⊢
            have gn := grown_trans g gs
            refine hK.out _ _ gn (fun hHeld => ?_)
            clear hK K
            try simp only [Act.put]
            have h2 := h2.more gs
            clear g gs hHeld
            refine cast ?_ (N1_8 u ia il ic na nl nc b9 gn h2 h9 hb9)
            kernel_rfl
          exact AllReadyH.nil
        · intro v b4 b9 g h4 h9 hb9
          refine wpAnyH_ready (rs := [1]) (by kernel_rfl) (by simp) ?_
          refine AllReadyH.cons rfl (fun K hK => ?_) ?_
          · go_simp
            refine (KB.out v g).mono ?_
            rintro e u ⟨⟨ia, il, ic⟩, ⟨na, nl, nc⟩, rfl, gs, h2⟩
            replace h2 : NodeD ⟨#[82, 101, 100, 117, 99, 101, 77, 97, 120]⟩ t1 xx1 xs1 r2 ⟨ia, il, ic⟩ ⟨na, nl, nc⟩ u := h2
            simp only
            have gn := grown_trans g gs
            refine hK.out _ _ gn (fun hHeld => ?_)
            clear hK K
            try simp only [Act.put]
            have h4 := box_kept h4 gs
            have h9 := box_kept h9 gs
            clear g gs hHeld
            exact N1_3_8 u ia il ic na nl nc b4 b9 gn h2 h4 h9 hb9
          exact AllReadyH.nil
        · intro v ia il ic na nl nc b9 g h2 h9 hb9
          refine wpAnyH_ready (rs := [3]) (by kernel_rfl) (by simp) ?_
          refine AllReadyH.cons rfl (fun K hK => ?_) ?_
          · go_simp
            have h4 := heap_alloc_new v (.cells #[.int .i64 t1, .slice aa an ac, .slice ad am ak] 25)
            have gs := grown_new v (.cells #[.int .i64 t1, .slice aa an ac, .slice ad am ak] 25)
            generalize hvn : v.alloc (.cells #[.int .i64 t1, .slice aa an ac, .slice ad am ak] 25) = u at h4 gs ⊢
            clear hvn
            generalize v.heap.size = b4 at h4 ⊢
            have gn := grown_trans g gs
            refine hK.out _ _ gn (fun hHeld => ?_)
            clear hK K
            try simp only [Act.put]
            have h2 := h2.more gs
            have h9 := box_kept h9 gs
            clear g gs hHeld
            refine cast ?_ (N1_3_8 u ia il ic na nl nc b4 b9 gn h2 h4 h9 hb9)
            kernel_rfl
          exact AllReadyH.nil
        · intro v ia il ic na nl nc b4 g h2 h4
          refine wpAnyH_ready (rs := [4, 8]) (by kernel_rfl) (by simp) ?_
          refine AllReadyH.cons rfl (fun K hK => ?_) ?_
          · go_simp
            refine (h2 v ⟨some ⟨b4, 0, none⟩, 1, 1⟩ ⟨t1, ⟨aa, an, ac⟩, ⟨ad, am, ak⟩⟩ rfl (grown_refl _) (one_ten _ h4 (IA.out.more g) (JA.out.more g))).mono ?_
            intro e u hq
            obtain ⟨hgd, ⟨ma, mn, mc⟩, ⟨md, mm, mk⟩, rfl, hla⟩ := do_pastR hq
            have gn := grown_trans g hgd
            refine hK.out _ _ gn (fun hHeld => ?_)
            clear hK K
            try simp only
            skip
            refine wpAnyH_take (i := 5) (v := ?_) rfl (by kernel_rfl) (by kernel_rfl) (by kernel_rfl) (fun _ _ _ h => h) (Or.inl ⟨by kernel_rfl, ?_⟩) (by assumption) ?_
            rotate_left 1
            · (intro wS hSw; go_simp; (try with_reducible rfl))
            try simp only [Act.put]
            refine wpAnyH_take (i := 6) (v := ?_) rfl (by kernel_rfl) (by kernel_rfl) (by kernel_rfl) (fun _ _ _ h => h) (Or.inl ⟨by kernel_rfl, ?_⟩) (by assumption) ?_
            rotate_left 1
            · (intro wS hSw; go_simp; (try with_reducible rfl))
            try simp only [Act.put]
            refine wpAnyH_take (i := 7) (v := ?_) rfl (by kernel_rfl) (by kernel_rfl) (by kernel_rfl) (fun _ _ _ h => h) (Or.inl ⟨by kernel_rfl, ?_⟩) (by assumption) ?_
            rotate_left 1
            · (intro wS hSw; go_simp; (try with_reducible rfl))
            try simp only [Act.put]
            refine wpAnyH_ready (rs := [8]) (by kernel_rfl) (by simp) ?_
            refine AllReadyH.cons rfl (fun K hK => ?_) AllReadyH.nil
            go_simp
            have kB := heap_alloc_new u (.cells #[.int .i64 0, .slice none 0 0, .slice none 0 0] 25)
            have gs := grown_new u (.cells #[.int .i64 0, .slice none 0 0, .slice none 0 0] 25)
            have hb9 := gn.size
            have LB : Hid (∀ wx, u.grownBy wx none → IsInts wx (.slice ma mn mc) (rL r2) ∧ IsInts wx (.slice md mm mk) (rZ r2)) := fun wx hx => hla v.heap.size.pred wx (Nat.pred_lt (by have := (Array.getElem?_eq_some_iff.1 h4).1; omega)) ⟨hx.1, hx.2, hx.3, hx.4, fun i hi _ => hx.5 i hi (by simp)⟩
            have gn2 := grown_trans gn gs
            refine hK.out _ _ gn2 (fun hHeld => ?_)
            clear hK K
            try simp only [Act.put]
            generalize hvn : u.alloc (.cells #[.int .i64 0, .slice none 0 0, .slice none 0 0] 25) = y at kB gs gn2 hHeld ⊢
            clear hvn
            obtain ⟨b9, hb⟩ : ∃ b, b = u.heap.size := ⟨_, rfl⟩
            have LC : Hid (∀ wx, y.grownBy wx (some b9) → IsInts wx (.slice ma mn mc) (rL r2) ∧ IsInts wx (.slice md mm mk) (rZ r2)) := fun wx hx => LB.out wx (grown_drop gs hx (by rw [hb]; exact Nat.le_refl _))
            rw [← hb] at kB hb9 ⊢
            clear hb LB gs
            replace LB := LC
            replace gn := gn2
            clear LC gn2
            obtain ⟨k0, k1, k2⟩ := ten_cells kB
            obtain ⟨f0, f1, f2⟩ := ten_frozen kB
            obtain ⟨st, sg⟩ := store3t (.int .i64 (rTy r2)) (.slice ma mn mc) (.slice md mm mk) kB
            refine wpAnyH_ready (rs := [9]) (by kernel_rfl) (by simp) ?_
            refine AllReadyH.cons rfl (fun K hK => ?_) AllReadyH.nil
            go_simp
            have gz := grown_drop gn sg hb9
            refine hK.out _ _ gz (fun hHeld => ?_)
            clear hK K
            try simp only [Act.put]
            refine wpAnyH_take (i := 10) (v := ?_) rfl (by kernel_rfl) (by kernel_rfl) (by kernel_rfl) (fun _ _ _ h => h) (Or.inl ⟨by kernel_rfl, ?_⟩) (by assumption) ?_
            rotate_left 1
            · (intro wS hSw; go_simp; (try with_reducible rfl))
            try simp only [Act.put]
            refine wpAnyH_done (by kernel_rfl) ?_ _
            have RE := LB.out _ sg
            clear h2 h4 hq hla kB k0 k1 k2 f0 f1 f2 g gn hHeld
            go_simp
            go_wp2_with fail
            go_meet
            exact ⟨gz, b9, ⟨ma, mn, mc⟩, ⟨md, mm, mk⟩, rfl, rfl, hb9, st, RE.1, RE.2⟩
          refine AllReadyH.cons rfl (fun K hK => ?_) ?_
          · have hb9 := g.size
            go_simp
            have h9 := heap_alloc_new v (.cells #[.int .i64 0, .slice none 0 0, .slice none 0 0] 25)
            have gs := grown_new v (.cells #[.int .i64 0, .slice none 0 0, .slice none 0 0] 25)
            generalize hvn : v.alloc (.cells #[.int .i64 0, .slice none 0 0, .slice none 0 0] 25) = u at h9 gs ⊢
            clear hvn
            generalize v.heap.size = b9 at h9 hb9 ⊢
            have gn := grown_trans g gs
            refine hK.out _ _ gn (fun hHeld => ?_)
            clear hK K
            try simp only [Act.put]
            have h2 := h2.more gs
            have h4 := box_kept h4 gs
            clear g gs hHeld
            refine cast ?_ (N1_3_8 u ia il ic na nl nc b4 b9 gn h2 h4 h9 hb9)
            kernel_rfl
          exact AllReadyH.nil
        · intro v ia il ic na nl nc b4 b9 g h2 h4 h9 hb9
          refine wpAnyH_ready (rs := [4]) (by kernel_rfl) (by simp) ?_
          refine AllReadyH.cons rfl (fun K hK => ?_) ?_
          · go_simp
            refine (h2 v ⟨some ⟨b4, 0, none⟩, 1, 1⟩ ⟨t1, ⟨aa, an, ac⟩, ⟨ad, am, ak⟩⟩ rfl (grown_refl _) (one_ten _ h4 (IA.out.more g) (JA.out.more g))).mono ?_
            intro e u hq
            obtain ⟨hgd, ⟨ma, mn, mc⟩, ⟨md, mm, mk⟩, rfl, hla⟩ := do_pastR hq
            have gn := grown_trans g hgd
            refine hK.out _ _ gn (fun hHeld => ?_)
            clear hK K
            try simp only
            have kB := box_kept h9 hgd
            have LB : Hid (∀ wx, u.grownBy wx (some b9) → IsInts wx (.slice ma mn mc) (rL r2) ∧ IsInts wx (.slice md mm mk) (rZ r2)) := fun wx hx => hla b9 wx (Array.getElem?_eq_some_iff.1 h9).1 hx
            refine wpAnyH_take (i := 5) (v := ?_) rfl (by kernel_rfl) (by kernel_rfl) (by kernel_rfl) (fun _ _ _ h => h) (Or.inl ⟨by kernel_rfl, ?_⟩) (by assumption) ?_
            rotate_left 1
            · (intro wS hSw; go_simp; (try with_reducible rfl))
            try simp only [Act.put]
            refine wpAnyH_take (i := 6) (v := ?_) rfl (by kernel_rfl) (by kernel_rfl) (by kernel_rfl) (fun _ _ _ h => h) (Or.inl ⟨by kernel_rfl, ?_⟩) (by assumption) ?_
            rotate_left 1
            · (intro wS hSw; go_simp; (try with_reducible rfl))
            try simp only [Act.put]
            refine wpAnyH_take (i := 7) (v := ?_) rfl (by kernel_rfl) (by kernel_rfl) (by kernel_rfl) (fun _ _ _ h => h) (Or.inl ⟨by kernel_rfl, ?_⟩) (by assumption) ?_
            rotate_left 1
            · (intro wS hSw; go_simp; (try with_reducible rfl))
            try simp only [Act.put]
            obtain ⟨k0, k1, k2⟩ := ten_cells kB
            obtain ⟨f0, f1, f2⟩ := ten_frozen kB
            obtain ⟨st, sg⟩ := store3t (.int .i64 (rTy r2)) (.slice ma mn mc) (.slice md mm mk) kB
            refine wpAnyH_ready (rs := [9]) (by kernel_rfl) (by simp) ?_
            refine AllReadyH.cons rfl (fun K hK => ?_) AllReadyH.nil
            go_simp
            have gz := grown_drop gn sg hb9
            refine hK.out _ _ gz (fun hHeld => ?_)
            clear hK K
            try simp only [Act.put]
            refine wpAnyH_take (i := 10) (v := ?_) rfl (by kernel_rfl) (by kernel_rfl) (by kernel_rfl) (fun _ _ _ h => h) (Or.inl ⟨by kernel_rfl, ?_⟩) (by assumption) ?_
            rotate_left 1
            · (intro wS hSw; go_simp; (try with_reducible rfl))
            try simp only [Act.put]
            refine wpAnyH_done (by kernel_rfl) ?_ _
            have RE := LB.out _ sg
            clear h2 h4 h9 hq hla kB k0 k1 k2 f0 f1 f2 g gn hHeld
            go_simp
            go_wp2_with fail
            go_meet
            exact ⟨gz, b9, ⟨ma, mn, mc⟩, ⟨md, mm, mk⟩, rfl, rfl, hb9, st, RE.1, RE.2⟩
          exact AllReadyH.nil
      case rest =>
      obtain ⟨hgc, B2, ⟨ba, bn, bc⟩, ⟨bd, bm, bk⟩, rfl, rfl, hB2, hbB, ib, jb⟩ := hcut
      obtain ⟨wB, ewB⟩ : ∃ z, z = wc := ⟨_, rfl⟩
      subst ewB
      simp only [Sl.v] at hbB ib jb
      have GB := hide (grown_trans GA.out hgc)
      have GB0 := hide (grown_trans GA0.out hgc)
      have HB2 := hide hbB
      have IB := hide ib
      have JB := hide jb
      have AO := hide (axis_own ⟨#[82, 101, 100, 117, 99, 101, 77, 97, 120]⟩ (by kernel_rfl) a 1 wB ⟨ha1, ha2⟩)
      clear hgc hB2 hbB ib jb KB y0 y1 y2
      go_wp2_with fail
      refine AO.out.mono ?_
      rintro e w3 ⟨s3, bi, g, cap, base, rfl, hg3, ⟨hbi, hbg⟩, hi3, hbase, hrow⟩
      unfold nval
      simp only
      obtain ⟨w4, hw4⟩ : ∃ W, W = w3.alloc (.cells #[.string ⟨#[82, 101, 100, 117, 99, 101, 77, 97, 120]⟩, .string ⟨#[]⟩, .slice (some ⟨bi, 0, none⟩) 1 1, .string ⟨#[122]⟩, .slice (some ⟨g, 0, none⟩) (1 + 1) cap] 35) := ⟨_, rfl⟩
      have bn4 := heap_alloc_new w3 (.cells #[.string ⟨#[82, 101, 100, 117, 99, 101, 77, 97, 120]⟩, .string ⟨#[]⟩, .slice (some ⟨bi, 0, none⟩) 1 1, .string ⟨#[122]⟩, .slice (some ⟨g, 0, none⟩) (1 + 1) cap] 35)
      rw [← hw4] at bn4
      have g4 : w3.grownBy w4 none := by rw [hw4]; exact grown_new _ _
      have z4 : w4.heap.size = w3.heap.size + 1 := by rw [hw4]; simp
      obtain ⟨w5, hw5⟩ : ∃ W, W = w4.alloc (.cells #[.int .i64 a, .int .i64 b] 2) := ⟨_, rfl⟩
      have bl5 := heap_alloc_new w4 (.cells #[.int .i64 a, .int .i64 b] 2)
      rw [← hw5, z4] at bl5
      have g5 : w4.grownBy w5 none := by rw [hw5]; exact grown_new _ _
      have hrow5 := World.ownsRow.kept (World.ownsRow.kept hrow g4 (.inr (by simp [Value.ownBlock]))) g5 (.inr (by simp [Value.ownBlock]))
      have c17 : w5.cell? ⟨g, 17, none⟩ = some (.slice s3.a s3.n s3.c) := (World.ownsRow.cellAt hrow5 17 (by simp)).trans rfl
      have f17 := World.ownsRow.frozenAt hrow5 17
      have st := World.ownsRow.stored hrow5 17 (.slice (some ⟨w3.heap.size + 1, 0, none⟩) 2 2)
      obtain ⟨n0, n1, n2, n3, n4⟩ := nod_cells (n := ⟨⟨#[82, 101, 100, 117, 99, 101, 77, 97, 120]⟩, ⟨#[]⟩, ⟨some ⟨bi, 0, none⟩, 1, 1⟩, ⟨#[122]⟩, ⟨some ⟨g, 0, none⟩, 1 + 1, cap⟩⟩) bn4
      simp only at n0 n1 n2 n3 n4
      rw [hw4] at n4
      obtain ⟨lg1, lg2⟩ := World.ownsRow.lt hrow g rfl
      have lz := hg3.size
      have lb : bi < w3.heap.size := (Array.getElem?_eq_some_iff.1 hbi).1
      obtain ⟨w6, hw6⟩ : ∃ W, W = w5.setCell ⟨g, 17, none⟩ (.slice (some ⟨w3.heap.size + 1, 0, none⟩) 2 2) := ⟨_, rfl⟩
      rw [← hw6] at st
      have row6 : w6.ownsRow base 41 9 (.slice (some ⟨g, 0, none⟩) (1 + 1) cap) (1 + 1) (acells (inI ⟨#[107, 101, 101, 112, 100, 105, 109, 115]⟩ 1) ++ acells (inA ⟨#[97, 120, 101, 115]⟩ ⟨some ⟨w3.heap.size + 1, 0, none⟩, 2, 2⟩)) := st.1
      have g35 := grown_trans g4 g5
      have s35 := g35.size
      have s45 := g5.size
      have up6 : ∀ (i : Nat) (o : Obj), i ≠ g → i < w5.heap.size → w5.heap[i]? = some o → w6.heap[i]? = some o := fun i o e1 e2 e3 => (st.2.block i e2 (by simp only [ne_eq, Option.some.injEq]; exact e1)).trans e3
      have gB6 := grown_drop (grown_trans hg3 g35) st.2 (by omega)
      have G6 := hide (grown_trans GB.out gB6)
      have G60 := hide (grown_trans GB0.out gB6)
      have bi6 := up6 bi _ hbg (by omega) (box_kept hbi g35)
      have bl6 := up6 (w3.heap.size + 1) _ (by omega) (by rw [hw5]; simp [z4]) bl5
      have bn6 := up6 w3.heap.size _ (by omega) (by omega) (box_kept bn4 g5)
      obtain ⟨w7, hw7⟩ : ∃ W, W = w6.alloc (.cells #[.int .i64 tx, .slice xa x.length xc, .slice ua un uc] 25) := ⟨_, rfl⟩
      have bx7 := heap_alloc_new w6 (.cells #[.int .i64 tx, .slice xa x.length xc, .slice ua un uc] 25)
      rw [← hw7] at bx7
      have g67 : w6.grownBy w7 none := by rw [hw7]; exact grown_new _ _
      have z6 : w6.heap.size = w3.heap.size + 1 + 1 := by rw [hw6, World.size_setCell, hw5, World.size_alloc, z4]
      rw [z6] at bx7
      have G7 := hide (grown_trans G6.out g67)
      have AT7 := own_attrsR (xs := [inI ⟨#[107, 101, 101, 112, 100, 105, 109, 115]⟩ 1, inA ⟨#[97, 120, 101, 115]⟩ ⟨some ⟨w3.heap.size + 1, 0, none⟩, 2, 2⟩]) (World.ownsRow.kept row6 g67 (.inr (by simp [Value.ownBlock]))) (by simp)
      have IL7 : IsInts w7 (.slice (some ⟨w3.heap.size + 1, 0, none⟩) 2 2) [a, b] := blk_ints (zs := [a, b]) (box_kept bl6 g67) (by simp) (fun z hz => by simp at hz; rcases hz with rfl | rfl <;> omega)
      have E3 := hide (max_do ⟨⟨#[82, 101, 100, 117, 99, 101, 77, 97, 120]⟩, ⟨#[]⟩, ⟨some ⟨bi, 0, none⟩, 1, 1⟩, ⟨#[122]⟩, ⟨some ⟨g, 0, none⟩, 1 + 1, cap⟩⟩ (kpAt ⟨#[82, 101, 100, 117, 99, 101, 77, 97, 120]⟩ 1 ⟨some ⟨w3.heap.size + 1, 0, none⟩, 2, 2⟩ [a, b]) ⟨#[120]⟩ rfl ⟨some ⟨w3.heap.size + 1 + 1, 0, none⟩, 1, 1⟩ ⟨tx, ⟨xa, x.length, xc⟩, ⟨ua, un, uc⟩⟩ x xs w7 (HL.out.more G7.out) (two_in (x_strs (box_kept bi6 g67)) (has_i w7 _ _) (has_l IL7) (by show 0 ≤ 1048576; omega) (by show 0 ≤ 1048576; omega) AT7) (two_ok (has_i w7 _ _) (has_l IL7) (by show -9223372036854775808 ≤ (1 : Int) ∧ (1 : Int) ≤ 9223372036854775807; omega) (by show -9223372036854775808 ≤ (0 : Int) ∧ (0 : Int) ≤ 9223372036854775807; omega) AT7) (kp_check2 _ _ _) (kp_then _ _ _ _) (by show 1 ≤ 1048576; omega) (one_ten _ bx7 (HX.out.more G7.out) (HXS.out.more G7.out)))
      obtain ⟨r3, hr3⟩ : ∃ r, r = maxR (kpAt ⟨#[82, 101, 100, 117, 99, 101, 77, 97, 120]⟩ 1 ⟨some ⟨w3.heap.size + 1, 0, none⟩, 2, 2⟩ [a, b]) tx x xs := ⟨_, rfl⟩
      have HR3 := hide hr3
      simp only at E3
      rw [← hr3] at E3
      unfold nval at E3
      simp only at E3
      obtain ⟨q0, q1, q2, q3, q4⟩ := nod_cells (n := ⟨⟨#[82, 101, 100, 117, 99, 101, 77, 97, 120]⟩, ⟨#[]⟩, ⟨some ⟨bi, 0, none⟩, 1, 1⟩, ⟨#[122]⟩, ⟨some ⟨g, 0, none⟩, 1 + 1, cap⟩⟩) bn6
      simp only at q0 q1 q2 q3 q4
      obtain ⟨x0, x1, x2⟩ := ten_cells (BX.out w6 G60.out)
      have G67 := hide (grown_trans gB6 g67)
      rw [hw5] at c17 f17
      rw [hw6, hw5] at q0 q1 q2 q3 q4 x0 x1 x2
      rw [hw4] at c17 f17 q0 q1 q2 q3 q4 x0 x1 x2
      rw [hw5, hw4] at hw6
      clear hg3 hbi hbg hi3 hbase hrow bn4 g4 bl5 g5 hrow5 st n0 n1 n2 n3 lg1 lg2 lz lb row6 g35 s35 s45 up6 gB6 bi6 bl6 bn6 bx7 g67 AT7 IL7 hr3 AO z4 z6
      go_wp2_with fail
      rw [← hw6, ← hw7]
      clear hw4 hw5 hw6 hw7 c17 f17 n4 q0 q1 q2 q3 q4 x0 x1 x2
      refine E3.out.mono ?_
      intro e w8 hq
      obtain ⟨hg8, ⟨ca, cn, cc⟩, ⟨cd, cm, ck⟩, rfl, i3, j3⟩ := do_any hq
      simp only
      obtain ⟨w9, hw9⟩ : ∃ W, W = w8.alloc (.cells #[.int .i64 (rTy r3), .slice ca cn cc, .slice cd cm ck] 25) := ⟨_, rfl⟩
      have b9 := heap_alloc_new w8 (.cells #[.int .i64 (rTy r3), .slice ca cn cc, .slice cd cm ck] 25)
      rw [← hw9] at b9
      have g9 : w8.grownBy w9 none := by rw [hw9]; exact grown_new _ _
      have GZ := hide (grown_trans G7.out (grown_trans hg8 g9))
      have GBZ := hide (grown_trans G67.out (grown_trans hg8 g9))
      have LZ := hide (LV.out w9 GZ.out)
      have I3 := hide (i3.more g9)
      have J3 := hide (j3.more g9)
      have HB3 := hide b9
      clear hq hg8 g9 b9 i3 j3 E3 G6 G60 G67
      have LW := LZ
      rw [hw9] at LW
      have GW := hide GZ.out
      rw [hw9] at GW
      cases r2 with
      | error c =>
        have hc0 : (rC (Except.error c : R (Int × List Int × List Int)) != 0) = true := by
          have hn : c ≠ 0 := nz_maxR _ _ _ _ c HR2.out.symm
          simpa [rC] using hn
        go_wp2_with fail
        refine LW.out.mono ?_
        rintro e u4 ⟨rfl, hg4⟩
        go_wp2
        go_ret
        exact ⟨rfl, grown_below (grown_trans GW.out hg4)⟩
      | ok rr2 =>
        obtain ⟨t2, xx2, xs2⟩ := rr2
        have hc2 : (rC (Except.ok (t2, xx2, xs2) : R (Int × List Int × List Int)) != 0) = false := rfl
        cases r3 with
        | error c =>
          have hc0 : (rC (Except.error c : R (Int × List Int × List Int)) != 0) = true := by
            have hn : c ≠ 0 := nz_maxR _ _ _ _ c HR3.out.symm
            simpa [rC] using hn
          go_wp2_with fail
          refine LW.out.mono ?_
          rintro e u4 ⟨rfl, hg4⟩
          go_wp2
          go_ret
          exact ⟨rfl, grown_below (grown_trans GW.out hg4)⟩
        | ok rr3 =>
          obtain ⟨t3, xx3, xs3⟩ := rr3
          have hc3 : (rC (Except.ok (t3, xx3, xs3) : R (Int × List Int × List Int)) != 0) = false := rfl
          obtain ⟨h1, h2, h3⟩ := most_answer HR1.out.symm HR2.out.symm HR3.out.symm
          subst h1 h2 h3
          simp only [rTy, rL, rZ] at HB2 IB JB HB3 I3 J3 hw9 ⊢
          have SA := hide (sameten_eq t2 _ _ _ _ xx2 xs2 w9 (IB.out.more GBZ.out) (JB.out.more GBZ.out) I3.out J3.out)
          simp only [Sl.v] at SA
          obtain ⟨y0, y1, y2⟩ := ten_cells (box_kept HB2.out GBZ.out)
          obtain ⟨p0, p1, p2⟩ := ten_cells HB3.out
          rw [hw9] at y0 y1 y2 p0 p1 p2
          clear LW GW LZ
          go_wp2_with (first | (go_at_call 12; rw [← hw9]; refine SA.out.mono ?_; rintro e wE ⟨rfl, hgE⟩; have LE := hide (LV.out wE (grown_trans GZ.out hgE))) | fail)
          refine LE.out.mono ?_
          rintro e wF ⟨rfl, hgF⟩
          go_wp2
          go_ret
          exact ⟨rfl, grown_below (grown_trans (grown_trans GZ.out hgE) hgF)⟩

end Go.Proofs.YtahmmilhmoogbaaGreatDoor
