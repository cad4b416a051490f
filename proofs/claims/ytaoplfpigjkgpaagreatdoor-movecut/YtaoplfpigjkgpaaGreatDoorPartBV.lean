/- Joined texts: LMCutW. -/
import Derived.Test.YtaoplfpigjkgpaaGreatDoorPartBM
import Derived.Test.YtaoplfpigjkgpaaGreatDoorPartBU
import Derived.Deep.Cut
import Derived.Deep.RegionLawGrows
namespace Go.Proofs.YtaoplfpigjkgpaaGreatDoor

open Go.RowKit

theorem with_node {N R : Prop} (h : N → R) (n : N) : R := h n

theorem own_slice {w : World} {base size n : Nat} {e : TypeId} {v : Value} {xs : List Value} (h : w.ownsRow base e size v n xs) (hn : 0 < n) : ∃ g cap, v = .slice (some ⟨g, 0, none⟩) n cap := by
  rcases h.2 with ⟨rfl, h0⟩ | ⟨g, cap, cur, rfl, _⟩
  · omega
  · exact ⟨g, cap, rfl⟩

set_option maxRecDepth 100000 in
set_option maxHeartbeats 16000000 in
theorem moveCut_walk (X : Ten) {x xs : List Int} (s : Sl) (P : List Int) (w : World) (hl : Laid w) (hx : IsInts w X.dv.v x) (hxs : IsInts w X.tv.v xs) (hp : IsInts w s.v P) : Calls Tryz.prog 6 #[tval X, .slice s.a s.n s.c] w fun e w' => e = .returned (.bool true) ∧ Below w.heap.size w w' := by
  obtain ⟨i1, hj, jz0, jz1, jz2⟩ := info_parts infoAttr
  obtain ⟨i0, hi0, hz0, hz1, hz2⟩ := info_parts info64E
  have HL := hide hl
  have HX := hide hx
  have HXS := hide hxs
  obtain ⟨_, _, ex, -⟩ := hx.sl
  obtain ⟨_, _, ep, ep1, ep2, ep3⟩ := hp.sl
  have HP := hide hp
  clear hl hx hxs hp
  obtain ⟨sa, sn, sc⟩ := s
  obtain ⟨tx, ⟨xa, xn, xc⟩, ⟨ua, un, uc⟩⟩ := X
  simp only [Sl.v, Value.slice.injEq] at ex ep
  obtain ⟨-, rfl, -⟩ := ex
  obtain ⟨-, rfl, -⟩ := ep
  unfold tval
  simp only [Sl.v] at HX HXS HP ⊢
  obtain ⟨w0, hw0⟩ : ∃ w0, w0 = w.alloc (.cells #[.int .i64 tx, .slice xa x.length xc, .slice ua un uc] 32) := ⟨_, rfl⟩
  obtain ⟨hbx, Z0⟩ := new_alloc (.cells #[.int .i64 tx, .slice xa x.length xc, .slice ua un uc] 32) (x := w) rfl
  rw [← hw0] at hbx Z0
  have g0 : w.grownBy w0 none := by rw [hw0]; exact grown_new _ _
  have BX : Hid (∀ wx, w0.grownBy wx none → wx.heap[w.heap.size]? = some (.cells #[.int .i64 tx, .slice xa x.length xc, .slice ua un uc] 32 (0, 0))) := fun wx hx => box_kept hbx hx
  have LV : Hid (∀ wx, w.grownBy wx none → Calls Tryz.prog 10 #[] wx fun e w' => e = .returned (.bool true) ∧ wx.grownBy w' none) := fun wx hx => live10_any wx (HL.out.more hx)
  obtain ⟨wS, hwS⟩ : ∃ wS, wS = w0.alloc (.cells #[.int .i64 tx, .slice xa x.length xc, .slice ua un uc] 32) := ⟨_, rfl⟩
  obtain ⟨bS, -⟩ := new_alloc (.cells #[.int .i64 tx, .slice xa x.length xc, .slice ua un uc] 32) Z0
  rw [← hwS] at bS
  have gS : w0.grownBy wS none := by rw [hwS]; exact grown_new _ _
  have GS := hide (grown_trans g0 gS)
  have GS0 := hide gS
  have SM := hide (small10_any ⟨some ⟨w.heap.size + 1, 0, none⟩, 1, 1⟩ _ wS (one_ten ⟨tx, ⟨xa, x.length, xc⟩, ⟨ua, un, uc⟩⟩ bS (HX.out.more GS.out) (HXS.out.more GS.out)))
  simp only at SM
  obtain ⟨x0, x1, x2⟩ := ten_cells hbx
  rw [hw0] at x0 x1 x2
  have G0 := hide g0
  clear hbx bS Z0 g0 gS
  go_enter Tryz.func6, Tryz.ntmps6
  go_wp2_with fail
  rw [← hw0, ← hwS]
  clear hw0 hwS x0 x1 x2
  refine SM.out.mono ?_
  rintro e w1 ⟨bb, rfl, hg1⟩
  have G1 := hide (grown_trans GS.out hg1)
  have G01 := hide (grown_trans GS0.out hg1)
  have L1 := hide (LV.out w1 G1.out)
  obtain ⟨x0, x1, x2⟩ := ten_cells (BX.out w1 G01.out)
  clear hg1 SM
  cases bb with
  | false =>
    go_wp2_with fail
    refine L1.out.mono ?_
    rintro e w2 ⟨rfl, hg2⟩
    go_wp2
    go_ret
    exact ⟨rfl, grown_below (grown_trans G1.out hg2)⟩
  | true =>
    obtain ⟨r, hr⟩ : ∃ r, r = padG (inAt ⟨#[80, 97, 100]⟩ ⟨#[112, 97, 100, 115]⟩ ⟨sa, P.length, sc⟩ P) tx x xs := ⟨_, rfl⟩
    have HR := hide hr
    have E1 : Hid (∀ (v : World) (b0 b1 b2 : Nat), w1.grownBy v none → v.heap[b0]? = some (.cells #[.string ⟨#[120]⟩] 9 (0, 0)) → v.heap[b1]? = some (.cells #[.string ⟨#[112, 97, 100, 115]⟩, .int .i64 7, .int .i64 0, .int .i64 0, .string ⟨#[]⟩, .int .i64 0, .slice none 0 0, .slice none 0 0, .slice sa P.length sc] 41 (0, 0)) → v.heap[b2]? = some (.cells #[.int .i64 tx, .slice xa x.length xc, .slice ua un uc] 32 (0, 0)) → Calls Tryz.prog 11 #[.agg #[.string ⟨#[80, 97, 100]⟩, .string ⟨#[]⟩, .slice (some ⟨b0, 0, none⟩) 1 1, .string ⟨#[121]⟩, .slice (some ⟨b1, 0, none⟩) 1 1], .slice (some ⟨b2, 0, none⟩) 1 1] v (DoQ v r)) := fun v b0 b1 b2 hg h0 h1 h2 => by
      have hgw := grown_trans G1.out hg
      have AT := in_attrs (s := ⟨sa, P.length, sc⟩) h1
      have k := pad_do ⟨⟨#[80, 97, 100]⟩, ⟨#[]⟩, ⟨some ⟨b0, 0, none⟩, 1, 1⟩, ⟨#[121]⟩, ⟨some ⟨b1, 0, none⟩, 1, 1⟩⟩ (inAt ⟨#[80, 97, 100]⟩ ⟨#[112, 97, 100, 115]⟩ ⟨sa, P.length, sc⟩ P) ⟨#[120]⟩ rfl ⟨some ⟨b2, 0, none⟩, 1, 1⟩ ⟨tx, ⟨xa, x.length, xc⟩, ⟨ua, un, uc⟩⟩ x xs v (HL.out.more hgw) (in_in (x_strs h0) (HP.out.more hgw) AT) (in_ok (HP.out.more hgw) AT) (pd_check _ _) (pd_then _ _) (by show 1 ≤ 1048576; omega) (one_ten _ h2 (HX.out.more hgw) (HXS.out.more hgw)) (by rw [pd_bits]; omega)
      rw [← hr] at k
      exact k
    have MI := hide (fun v => mints_any ⟨#[112, 97, 100, 115]⟩ ⟨sa, P.length, sc⟩ v)
    simp only at MI
    clear hr
    go_upto_region 3 with fail
    go_cut [5, 6] from 17 to 27 (fun t5 t6 wx => w1.grownBy wx none ∧ ∃ (B : Nat) (dv tv : Sl), t5 = .pointer (some ⟨B, 0, none⟩) ∧ t6 = .int .i64 (rC r) ∧ w1.heap.size ≤ B ∧ wx.heap[B]? = some (.cells #[.int .i64 (rTy r), .slice dv.a dv.n dv.c, .slice tv.a tv.n tv.c] 32 (0, 0)) ∧ IsInts wx dv.v (rL r) ∧ IsInts wx tv.v (rZ r))
    case first =>
      refine wp_region_held_drew (S := fun w' => w1.grownBy w' none) (by kernel_rfl) (grown_drew (grown_refl _)) (fun _ => ?_)
      refine' with_node (N := ∀ (v : World) (b0 : Nat) (b1 : Nat) (b2 : Nat) (b3 : Nat), w1.grownBy v none → v.heap[b0]? = some (.cells #[.string ⟨#[120]⟩] 9 (0, 0)) → v.heap[b1]? = some (.cells #[.string ⟨#[112, 97, 100, 115]⟩, .int .i64 7, .int .i64 0, .int .i64 0, .string ⟨#[]⟩, .int .i64 0, .slice none 0 0, .slice none 0 0, .slice sa P.length sc] 41 (0, 0)) → v.heap[b2]? = some (.cells #[.int .i64 tx, .slice xa x.length xc, .slice ua un uc] 32 (0, 0)) → v.heap[b3]? = some (.cells #[.int .i64 0, .slice none 0 0, .slice none 0 0] 32 (0, 0)) → w1.heap.size ≤ b3 → (_ : World → Nat → Nat → Nat → Nat → Prop) v b0 b1 b2 b3) (fun N0_2_5_10 => ?_) ?_
      rotate_left 1
      refine' with_node (N := ∀ (v : World) (b0 : Nat) (b1 : Nat) (b2 : Nat), w1.grownBy v none → v.heap[b0]? = some (.cells #[.string ⟨#[120]⟩] 9 (0, 0)) → v.heap[b1]? = some (.cells #[.string ⟨#[112, 97, 100, 115]⟩, .int .i64 7, .int .i64 0, .int .i64 0, .string ⟨#[]⟩, .int .i64 0, .slice none 0 0, .slice none 0 0, .slice sa P.length sc] 41 (0, 0)) → v.heap[b2]? = some (.cells #[.int .i64 tx, .slice xa x.length xc, .slice ua un uc] 32 (0, 0)) → (_ : World → Nat → Nat → Nat → Prop) v b0 b1 b2) (fun N0_2_5 => ?_) ?_
      rotate_left 1
      refine' with_node (N := ∀ (v : World) (b0 : Nat) (b1 : Nat) (b3 : Nat), w1.grownBy v none → v.heap[b0]? = some (.cells #[.string ⟨#[120]⟩] 9 (0, 0)) → v.heap[b1]? = some (.cells #[.string ⟨#[112, 97, 100, 115]⟩, .int .i64 7, .int .i64 0, .int .i64 0, .string ⟨#[]⟩, .int .i64 0, .slice none 0 0, .slice none 0 0, .slice sa P.length sc] 41 (0, 0)) → v.heap[b3]? = some (.cells #[.int .i64 0, .slice none 0 0, .slice none 0 0] 32 (0, 0)) → w1.heap.size ≤ b3 → (_ : World → Nat → Nat → Nat → Prop) v b0 b1 b3) (fun N0_2_10 => ?_) ?_
      rotate_left 1
      refine' with_node (N := ∀ (v : World) (b0 : Nat) (b2 : Nat) (b3 : Nat), w1.grownBy v none → v.heap[b0]? = some (.cells #[.string ⟨#[120]⟩] 9 (0, 0)) → v.heap[b2]? = some (.cells #[.int .i64 tx, .slice xa x.length xc, .slice ua un uc] 32 (0, 0)) → v.heap[b3]? = some (.cells #[.int .i64 0, .slice none 0 0, .slice none 0 0] 32 (0, 0)) → w1.heap.size ≤ b3 → (_ : World → Nat → Nat → Nat → Prop) v b0 b2 b3) (fun N0_5_10 => ?_) ?_
      rotate_left 1
      refine' with_node (N := ∀ (v : World) (b1 : Nat) (b2 : Nat) (b3 : Nat), w1.grownBy v none → v.heap[b1]? = some (.cells #[.string ⟨#[112, 97, 100, 115]⟩, .int .i64 7, .int .i64 0, .int .i64 0, .string ⟨#[]⟩, .int .i64 0, .slice none 0 0, .slice none 0 0, .slice sa P.length sc] 41 (0, 0)) → v.heap[b2]? = some (.cells #[.int .i64 tx, .slice xa x.length xc, .slice ua un uc] 32 (0, 0)) → v.heap[b3]? = some (.cells #[.int .i64 0, .slice none 0 0, .slice none 0 0] 32 (0, 0)) → w1.heap.size ≤ b3 → (_ : World → Nat → Nat → Nat → Prop) v b1 b2 b3) (fun N2_5_10 => ?_) ?_
      rotate_left 1
      refine' with_node (N := ∀ (v : World) (b0 : Nat) (b1 : Nat), w1.grownBy v none → v.heap[b0]? = some (.cells #[.string ⟨#[120]⟩] 9 (0, 0)) → v.heap[b1]? = some (.cells #[.string ⟨#[112, 97, 100, 115]⟩, .int .i64 7, .int .i64 0, .int .i64 0, .string ⟨#[]⟩, .int .i64 0, .slice none 0 0, .slice none 0 0, .slice sa P.length sc] 41 (0, 0)) → (_ : World → Nat → Nat → Prop) v b0 b1) (fun N0_2 => ?_) ?_
      rotate_left 1
      refine' with_node (N := ∀ (v : World) (b0 : Nat) (b2 : Nat), w1.grownBy v none → v.heap[b0]? = some (.cells #[.string ⟨#[120]⟩] 9 (0, 0)) → v.heap[b2]? = some (.cells #[.int .i64 tx, .slice xa x.length xc, .slice ua un uc] 32 (0, 0)) → (_ : World → Nat → Nat → Prop) v b0 b2) (fun N0_5 => ?_) ?_
      rotate_left 1
      refine' with_node (N := ∀ (v : World) (b0 : Nat) (b3 : Nat), w1.grownBy v none → v.heap[b0]? = some (.cells #[.string ⟨#[120]⟩] 9 (0, 0)) → v.heap[b3]? = some (.cells #[.int .i64 0, .slice none 0 0, .slice none 0 0] 32 (0, 0)) → w1.heap.size ≤ b3 → (_ : World → Nat → Nat → Prop) v b0 b3) (fun N0_10 => ?_) ?_
      rotate_left 1
      refine' with_node (N := ∀ (v : World) (b1 : Nat) (b2 : Nat), w1.grownBy v none → v.heap[b1]? = some (.cells #[.string ⟨#[112, 97, 100, 115]⟩, .int .i64 7, .int .i64 0, .int .i64 0, .string ⟨#[]⟩, .int .i64 0, .slice none 0 0, .slice none 0 0, .slice sa P.length sc] 41 (0, 0)) → v.heap[b2]? = some (.cells #[.int .i64 tx, .slice xa x.length xc, .slice ua un uc] 32 (0, 0)) → (_ : World → Nat → Nat → Prop) v b1 b2) (fun N2_5 => ?_) ?_
      rotate_left 1
      refine' with_node (N := ∀ (v : World) (b1 : Nat) (b3 : Nat), w1.grownBy v none → v.heap[b1]? = some (.cells #[.string ⟨#[112, 97, 100, 115]⟩, .int .i64 7, .int .i64 0, .int .i64 0, .string ⟨#[]⟩, .int .i64 0, .slice none 0 0, .slice none 0 0, .slice sa P.length sc] 41 (0, 0)) → v.heap[b3]? = some (.cells #[.int .i64 0, .slice none 0 0, .slice none 0 0] 32 (0, 0)) → w1.heap.size ≤ b3 → (_ : World → Nat → Nat → Prop) v b1 b3) (fun N2_10 => ?_) ?_
      rotate_left 1
      refine' with_node (N := ∀ (v : World) (b2 : Nat) (b3 : Nat), w1.grownBy v none → v.heap[b2]? = some (.cells #[.int .i64 tx, .slice xa x.length xc, .slice ua un uc] 32 (0, 0)) → v.heap[b3]? = some (.cells #[.int .i64 0, .slice none 0 0, .slice none 0 0] 32 (0, 0)) → w1.heap.size ≤ b3 → (_ : World → Nat → Nat → Prop) v b2 b3) (fun N5_10 => ?_) ?_
      rotate_left 1
      refine' with_node (N := ∀ (v : World) (b0 : Nat), w1.grownBy v none → v.heap[b0]? = some (.cells #[.string ⟨#[120]⟩] 9 (0, 0)) → (_ : World → Nat → Prop) v b0) (fun N0 => ?_) ?_
      rotate_left 1
      refine' with_node (N := ∀ (v : World) (b1 : Nat), w1.grownBy v none → v.heap[b1]? = some (.cells #[.string ⟨#[112, 97, 100, 115]⟩, .int .i64 7, .int .i64 0, .int .i64 0, .string ⟨#[]⟩, .int .i64 0, .slice none 0 0, .slice none 0 0, .slice sa P.length sc] 41 (0, 0)) → (_ : World → Nat → Prop) v b1) (fun N2 => ?_) ?_
      rotate_left 1
      refine' with_node (N := ∀ (v : World) (b2 : Nat), w1.grownBy v none → v.heap[b2]? = some (.cells #[.int .i64 tx, .slice xa x.length xc, .slice ua un uc] 32 (0, 0)) → (_ : World → Nat → Prop) v b2) (fun N5 => ?_) ?_
      rotate_left 1
      refine' with_node (N := ∀ (v : World) (b3 : Nat), w1.grownBy v none → v.heap[b3]? = some (.cells #[.int .i64 0, .slice none 0 0, .slice none 0 0] 32 (0, 0)) → w1.heap.size ≤ b3 → (_ : World → Nat → Prop) v b3) (fun N10 => ?_) ?_
      rotate_left 1
      · have g : w1.grownBy w1.drew none := grown_drew (grown_refl _)
        generalize hv : w1.drew = v at g ⊢
        clear hv
        refine wpAnyH_take (i := 1) (v := ?_) rfl (by kernel_rfl) (by kernel_rfl) (by kernel_rfl) (fun _ _ _ h => h) (Or.inl ⟨by kernel_rfl, ?_⟩) (by assumption) ?_
        rotate_left 1
        · (intro wS hSw; go_simp; (try with_reducible rfl))
        try simp only [Act.put]
        refine wpAnyH_take (i := 4) (v := ?_) rfl (by kernel_rfl) (by kernel_rfl) (by kernel_rfl) (fun _ _ _ h => h) (Or.inl ⟨by kernel_rfl, ?_⟩) (by assumption) ?_
        rotate_left 1
        · (intro wS hSw; have c0 := cell_still x0 hSw; have c1 := cell_still x1 hSw; have c2 := cell_still x2 hSw; go_simp; (try with_reducible rfl))
        try simp only [Act.put]
        refine wpAnyH_ready (rs := [0, 2, 5, 10]) (by kernel_rfl) (by simp) ?_
        refine AllReadyH.cons rfl (fun K hK => ?_) ?_
        · go_simp
          have h0 := heap_alloc_new v (.cells #[.string ⟨#[120]⟩] 9)
          have gs := grown_new v (.cells #[.string ⟨#[120]⟩] 9)
          generalize hvn : v.alloc (.cells #[.string ⟨#[120]⟩] 9) = u at h0 gs ⊢
          clear hvn
          generalize v.heap.size = b0 at h0 ⊢
          have gn := grown_trans g gs
          refine hK.out _ _ gn (fun hHeld => ?_)
          clear hK K
          try simp only [Act.put]
          clear g gs hHeld
          exact N0 u b0 gn h0
        refine AllReadyH.cons rfl (fun K hK => ?_) ?_
        · go_simp
          refine (MI.out v).mono ?_
          rintro e u ⟨rfl, hvn⟩
          have h1 := heap_alloc_new v (.cells #[.string ⟨#[112, 97, 100, 115]⟩, .int .i64 7, .int .i64 0, .int .i64 0, .string ⟨#[]⟩, .int .i64 0, .slice none 0 0, .slice none 0 0, .slice sa P.length sc] 41)
          rw [← hvn] at h1
          have gs : v.grownBy u none := by rw [hvn]; exact grown_new _ _
          clear hvn
          generalize v.heap.size = b1 at h1 ⊢
          have gn := grown_trans g gs
          refine hK.out _ _ gn (fun hHeld => ?_)
          clear hK K
          try simp only [Act.put]
          clear g gs hHeld
          exact N2 u b1 gn h1
        refine AllReadyH.cons rfl (fun K hK => ?_) ?_
        · go_simp
          have h2 := heap_alloc_new v (.cells #[.int .i64 tx, .slice xa x.length xc, .slice ua un uc] 32)
          have gs := grown_new v (.cells #[.int .i64 tx, .slice xa x.length xc, .slice ua un uc] 32)
          generalize hvn : v.alloc (.cells #[.int .i64 tx, .slice xa x.length xc, .slice ua un uc] 32) = u at h2 gs ⊢
          clear hvn
          generalize v.heap.size = b2 at h2 ⊢
          have gn := grown_trans g gs
          refine hK.out _ _ gn (fun hHeld => ?_)
          clear hK K
          try simp only [Act.put]
          clear g gs hHeld
          exact N5 u b2 gn h2
        refine AllReadyH.cons rfl (fun K hK => ?_) ?_
        · have hb3 := g.size
          go_simp
          have h3 := heap_alloc_new v (.cells #[.int .i64 0, .slice none 0 0, .slice none 0 0] 32)
          have gs := grown_new v (.cells #[.int .i64 0, .slice none 0 0, .slice none 0 0] 32)
          generalize hvn : v.alloc (.cells #[.int .i64 0, .slice none 0 0, .slice none 0 0] 32) = u at h3 gs ⊢
          clear hvn
          generalize v.heap.size = b3 at h3 hb3 ⊢
          have gn := grown_trans g gs
          refine hK.out _ _ gn (fun hHeld => ?_)
          clear hK K
          try simp only [Act.put]
          clear g gs hHeld
          exact N10 u b3 gn h3 hb3
        exact AllReadyH.nil
      · intro v b3 g h3 hb3
        refine wpAnyH_ready (rs := [0, 2, 5]) (by kernel_rfl) (by simp) ?_
        refine AllReadyH.cons rfl (fun K hK => ?_) ?_
        · go_simp
          have h0 := heap_alloc_new v (.cells #[.string ⟨#[120]⟩] 9)
          have gs := grown_new v (.cells #[.string ⟨#[120]⟩] 9)
          generalize hvn : v.alloc (.cells #[.string ⟨#[120]⟩] 9) = u at h0 gs ⊢
          clear hvn
          generalize v.heap.size = b0 at h0 ⊢
          have gn := grown_trans g gs
          refine hK.out _ _ gn (fun hHeld => ?_)
          clear hK K
          try simp only [Act.put]
          have h3 := box_kept h3 gs
          clear g gs hHeld
          exact N0_10 u b0 b3 gn h0 h3 hb3
        refine AllReadyH.cons rfl (fun K hK => ?_) ?_
        · go_simp
          refine (MI.out v).mono ?_
          rintro e u ⟨rfl, hvn⟩
          have h1 := heap_alloc_new v (.cells #[.string ⟨#[112, 97, 100, 115]⟩, .int .i64 7, .int .i64 0, .int .i64 0, .string ⟨#[]⟩, .int .i64 0, .slice none 0 0, .slice none 0 0, .slice sa P.length sc] 41)
          rw [← hvn] at h1
          have gs : v.grownBy u none := by rw [hvn]; exact grown_new _ _
          clear hvn
          generalize v.heap.size = b1 at h1 ⊢
          have gn := grown_trans g gs
          refine hK.out _ _ gn (fun hHeld => ?_)
          clear hK K
          try simp only [Act.put]
          have h3 := box_kept h3 gs
          clear g gs hHeld
          exact N2_10 u b1 b3 gn h1 h3 hb3
        refine AllReadyH.cons rfl (fun K hK => ?_) ?_
        · go_simp
          have h2 := heap_alloc_new v (.cells #[.int .i64 tx, .slice xa x.length xc, .slice ua un uc] 32)
          have gs := grown_new v (.cells #[.int .i64 tx, .slice xa x.length xc, .slice ua un uc] 32)
          generalize hvn : v.alloc (.cells #[.int .i64 tx, .slice xa x.length xc, .slice ua un uc] 32) = u at h2 gs ⊢
          clear hvn
          generalize v.heap.size = b2 at h2 ⊢
          have gn := grown_trans g gs
          refine hK.out _ _ gn (fun hHeld => ?_)
          clear hK K
          try simp only [Act.put]
          have h3 := box_kept h3 gs
          clear g gs hHeld
          exact N5_10 u b2 b3 gn h2 h3 hb3
        exact AllReadyH.nil
      · intro v b2 g h2
        refine wpAnyH_ready (rs := [0, 2, 10]) (by kernel_rfl) (by simp) ?_
        refine AllReadyH.cons rfl (fun K hK => ?_) ?_
        · go_simp
          have h0 := heap_alloc_new v (.cells #[.string ⟨#[120]⟩] 9)
          have gs := grown_new v (.cells #[.string ⟨#[120]⟩] 9)
          generalize hvn : v.alloc (.cells #[.string ⟨#[120]⟩] 9) = u at h0 gs ⊢
          clear hvn
          generalize v.heap.size = b0 at h0 ⊢
          have gn := grown_trans g gs
          refine hK.out _ _ gn (fun hHeld => ?_)
          clear hK K
          try simp only [Act.put]
          have h2 := box_kept h2 gs
          clear g gs hHeld
          exact N0_5 u b0 b2 gn h0 h2
        refine AllReadyH.cons rfl (fun K hK => ?_) ?_
        · go_simp
          refine (MI.out v).mono ?_
          rintro e u ⟨rfl, hvn⟩
          have h1 := heap_alloc_new v (.cells #[.string ⟨#[112, 97, 100, 115]⟩, .int .i64 7, .int .i64 0, .int .i64 0, .string ⟨#[]⟩, .int .i64 0, .slice none 0 0, .slice none 0 0, .slice sa P.length sc] 41)
          rw [← hvn] at h1
          have gs : v.grownBy u none := by rw [hvn]; exact grown_new _ _
          clear hvn
          generalize v.heap.size = b1 at h1 ⊢
          have gn := grown_trans g gs
          refine hK.out _ _ gn (fun hHeld => ?_)
          clear hK K
          try simp only [Act.put]
          have h2 := box_kept h2 gs
          clear g gs hHeld
          exact N2_5 u b1 b2 gn h1 h2
        refine AllReadyH.cons rfl (fun K hK => ?_) ?_
        · have hb3 := g.size
          go_simp
          have h3 := heap_alloc_new v (.cells #[.int .i64 0, .slice none 0 0, .slice none 0 0] 32)
          have gs := grown_new v (.cells #[.int .i64 0, .slice none 0 0, .slice none 0 0] 32)
          generalize hvn : v.alloc (.cells #[.int .i64 0, .slice none 0 0, .slice none 0 0] 32) = u at h3 gs ⊢
          clear hvn
          generalize v.heap.size = b3 at h3 hb3 ⊢
          have gn := grown_trans g gs
          refine hK.out _ _ gn (fun hHeld => ?_)
          clear hK K
          try simp only [Act.put]
          have h2 := box_kept h2 gs
          clear g gs hHeld
          refine cast ?_ (N5_10 u b2 b3 gn h2 h3 hb3)
          kernel_rfl
        exact AllReadyH.nil
      · intro v b1 g h1
        refine wpAnyH_ready (rs := [0, 5, 10]) (by kernel_rfl) (by simp) ?_
        refine AllReadyH.cons rfl (fun K hK => ?_) ?_
        · go_simp
          have h0 := heap_alloc_new v (.cells #[.string ⟨#[120]⟩] 9)
          have gs := grown_new v (.cells #[.string ⟨#[120]⟩] 9)
          generalize hvn : v.alloc (.cells #[.string ⟨#[120]⟩] 9) = u at h0 gs ⊢
          clear hvn
          generalize v.heap.size = b0 at h0 ⊢
          have gn := grown_trans g gs
          refine hK.out _ _ gn (fun hHeld => ?_)
          clear hK K
          try simp only [Act.put]
          refine wpAnyH_take (i := 3) (v := ?_) rfl (by kernel_rfl) (by kernel_rfl) (by kernel_rfl) (fun _ _ _ h => h) (Or.inl ⟨by kernel_rfl, ?_⟩) (by assumption) ?_
          rotate_left 1
          · (intro wS hSw; go_simp; (try with_reducible rfl))
          try simp only [Act.put]
          have h1 := box_kept h1 gs
          clear g gs hHeld
          exact N0_2 u b0 b1 gn h0 h1
        refine AllReadyH.cons rfl (fun K hK => ?_) ?_
        · go_simp
          have h2 := heap_alloc_new v (.cells #[.int .i64 tx, .slice xa x.length xc, .slice ua un uc] 32)
          have gs := grown_new v (.cells #[.int .i64 tx, .slice xa x.length xc, .slice ua un uc] 32)
          generalize hvn : v.alloc (.cells #[.int .i64 tx, .slice xa x.length xc, .slice ua un uc] 32) = u at h2 gs ⊢
          clear hvn
          generalize v.heap.size = b2 at h2 ⊢
          have gn := grown_trans g gs
          refine hK.out _ _ gn (fun hHeld => ?_)
          clear hK K
          try simp only [Act.put]
          have h1 := box_kept h1 gs
          clear g gs hHeld
          refine cast ?_ (N2_5 u b1 b2 gn h1 h2)
          kernel_rfl
        refine AllReadyH.cons rfl (fun K hK => ?_) ?_
        · have hb3 := g.size
          go_simp
          have h3 := heap_alloc_new v (.cells #[.int .i64 0, .slice none 0 0, .slice none 0 0] 32)
          have gs := grown_new v (.cells #[.int .i64 0, .slice none 0 0, .slice none 0 0] 32)
          generalize hvn : v.alloc (.cells #[.int .i64 0, .slice none 0 0, .slice none 0 0] 32) = u at h3 gs ⊢
          clear hvn
          generalize v.heap.size = b3 at h3 hb3 ⊢
          have gn := grown_trans g gs
          refine hK.out _ _ gn (fun hHeld => ?_)
          clear hK K
          try simp only [Act.put]
          have h1 := box_kept h1 gs
          clear g gs hHeld
          refine cast ?_ (N2_10 u b1 b3 gn h1 h3 hb3)
          kernel_rfl
        exact AllReadyH.nil
      · intro v b0 g h0
        refine wpAnyH_ready (rs := [2, 5, 10]) (by kernel_rfl) (by simp) ?_
        refine AllReadyH.cons rfl (fun K hK => ?_) ?_
        · go_simp
          refine (MI.out v).mono ?_
          rintro e u ⟨rfl, hvn⟩
          have h1 := heap_alloc_new v (.cells #[.string ⟨#[112, 97, 100, 115]⟩, .int .i64 7, .int .i64 0, .int .i64 0, .string ⟨#[]⟩, .int .i64 0, .slice none 0 0, .slice none 0 0, .slice sa P.length sc] 41)
          rw [← hvn] at h1
          have gs : v.grownBy u none := by rw [hvn]; exact grown_new _ _
          clear hvn
          generalize v.heap.size = b1 at h1 ⊢
          have gn := grown_trans g gs
          refine hK.out _ _ gn (fun hHeld => ?_)
          clear hK K
          try simp only [Act.put]
          refine wpAnyH_take (i := 3) (v := ?_) rfl (by kernel_rfl) (by kernel_rfl) (by kernel_rfl) (fun _ _ _ h => h) (Or.inl ⟨by kernel_rfl, ?_⟩) (by assumption) ?_
          rotate_left 1
          · (intro wS hSw; go_simp; (try with_reducible rfl))
          try simp only [Act.put]
          have h0 := box_kept h0 gs
          clear g gs hHeld
          refine cast ?_ (N0_2 u b0 b1 gn h0 h1)
          kernel_rfl
        refine AllReadyH.cons rfl (fun K hK => ?_) ?_
        · go_simp
          have h2 := heap_alloc_new v (.cells #[.int .i64 tx, .slice xa x.length xc, .slice ua un uc] 32)
          have gs := grown_new v (.cells #[.int .i64 tx, .slice xa x.length xc, .slice ua un uc] 32)
          generalize hvn : v.alloc (.cells #[.int .i64 tx, .slice xa x.length xc, .slice ua un uc] 32) = u at h2 gs ⊢
          clear hvn
          generalize v.heap.size = b2 at h2 ⊢
          have gn := grown_trans g gs
          refine hK.out _ _ gn (fun hHeld => ?_)
          clear hK K
          try simp only [Act.put]
          have h0 := box_kept h0 gs
          clear g gs hHeld
          refine cast ?_ (N0_5 u b0 b2 gn h0 h2)
          kernel_rfl
        refine AllReadyH.cons rfl (fun K hK => ?_) ?_
        · have hb3 := g.size
          go_simp
          have h3 := heap_alloc_new v (.cells #[.int .i64 0, .slice none 0 0, .slice none 0 0] 32)
          have gs := grown_new v (.cells #[.int .i64 0, .slice none 0 0, .slice none 0 0] 32)
          generalize hvn : v.alloc (.cells #[.int .i64 0, .slice none 0 0, .slice none 0 0] 32) = u at h3 gs ⊢
          clear hvn
          generalize v.heap.size = b3 at h3 hb3 ⊢
          have gn := grown_trans g gs
          refine hK.out _ _ gn (fun hHeld => ?_)
          clear hK K
          try simp only [Act.put]
          have h0 := box_kept h0 gs
          clear g gs hHeld
          refine cast ?_ (N0_10 u b0 b3 gn h0 h3 hb3)
          kernel_rfl
        exact AllReadyH.nil
      · intro v b2 b3 g h2 h3 hb3
        refine wpAnyH_ready (rs := [0, 2]) (by kernel_rfl) (by simp) ?_
        refine AllReadyH.cons rfl (fun K hK => ?_) ?_
        · go_simp
          have h0 := heap_alloc_new v (.cells #[.string ⟨#[120]⟩] 9)
          have gs := grown_new v (.cells #[.string ⟨#[120]⟩] 9)
          generalize hvn : v.alloc (.cells #[.string ⟨#[120]⟩] 9) = u at h0 gs ⊢
          clear hvn
          generalize v.heap.size = b0 at h0 ⊢
          have gn := grown_trans g gs
          refine hK.out _ _ gn (fun hHeld => ?_)
          clear hK K
          try simp only [Act.put]
          have h2 := box_kept h2 gs
          have h3 := box_kept h3 gs
          clear g gs hHeld
          exact N0_5_10 u b0 b2 b3 gn h0 h2 h3 hb3
        refine AllReadyH.cons rfl (fun K hK => ?_) ?_
        · go_simp
          refine (MI.out v).mono ?_
          rintro e u ⟨rfl, hvn⟩
          have h1 := heap_alloc_new v (.cells #[.string ⟨#[112, 97, 100, 115]⟩, .int .i64 7, .int .i64 0, .int .i64 0, .string ⟨#[]⟩, .int .i64 0, .slice none 0 0, .slice none 0 0, .slice sa P.length sc] 41)
          rw [← hvn] at h1
          have gs : v.grownBy u none := by rw [hvn]; exact grown_new _ _
          clear hvn
          generalize v.heap.size = b1 at h1 ⊢
          have gn := grown_trans g gs
          refine hK.out _ _ gn (fun hHeld => ?_)
          clear hK K
          try simp only [Act.put]
          have h2 := box_kept h2 gs
          have h3 := box_kept h3 gs
          clear g gs hHeld
          exact N2_5_10 u b1 b2 b3 gn h1 h2 h3 hb3
        exact AllReadyH.nil
      · intro v b1 b3 g h1 h3 hb3
        refine wpAnyH_ready (rs := [0, 5]) (by kernel_rfl) (by simp) ?_
        refine AllReadyH.cons rfl (fun K hK => ?_) ?_
        · go_simp
          have h0 := heap_alloc_new v (.cells #[.string ⟨#[120]⟩] 9)
          have gs := grown_new v (.cells #[.string ⟨#[120]⟩] 9)
          generalize hvn : v.alloc (.cells #[.string ⟨#[120]⟩] 9) = u at h0 gs ⊢
          clear hvn
          generalize v.heap.size = b0 at h0 ⊢
          have gn := grown_trans g gs
          refine hK.out _ _ gn (fun hHeld => ?_)
          clear hK K
          try simp only [Act.put]
          refine wpAnyH_take (i := 3) (v := ?_) rfl (by kernel_rfl) (by kernel_rfl) (by kernel_rfl) (fun _ _ _ h => h) (Or.inl ⟨by kernel_rfl, ?_⟩) (by assumption) ?_
          rotate_left 1
          · (intro wS hSw; go_simp; (try with_reducible rfl))
          try simp only [Act.put]
          have h1 := box_kept h1 gs
          have h3 := box_kept h3 gs
          clear g gs hHeld
          exact N0_2_10 u b0 b1 b3 gn h0 h1 h3 hb3
        refine AllReadyH.cons rfl (fun K hK => ?_) ?_
        · go_simp
          have h2 := heap_alloc_new v (.cells #[.int .i64 tx, .slice xa x.length xc, .slice ua un uc] 32)
          have gs := grown_new v (.cells #[.int .i64 tx, .slice xa x.length xc, .slice ua un uc] 32)
          generalize hvn : v.alloc (.cells #[.int .i64 tx, .slice xa x.length xc, .slice ua un uc] 32) = u at h2 gs ⊢
          clear hvn
          generalize v.heap.size = b2 at h2 ⊢
          have gn := grown_trans g gs
          refine hK.out _ _ gn (fun hHeld => ?_)
          clear hK K
          try simp only [Act.put]
          have h1 := box_kept h1 gs
          have h3 := box_kept h3 gs
          clear g gs hHeld
          refine cast ?_ (N2_5_10 u b1 b2 b3 gn h1 h2 h3 hb3)
          kernel_rfl
        exact AllReadyH.nil
      · intro v b1 b2 g h1 h2
        refine wpAnyH_ready (rs := [0, 10]) (by kernel_rfl) (by simp) ?_
        refine AllReadyH.cons rfl (fun K hK => ?_) ?_
        · go_simp
          have h0 := heap_alloc_new v (.cells #[.string ⟨#[120]⟩] 9)
          have gs := grown_new v (.cells #[.string ⟨#[120]⟩] 9)
          generalize hvn : v.alloc (.cells #[.string ⟨#[120]⟩] 9) = u at h0 gs ⊢
          clear hvn
          generalize v.heap.size = b0 at h0 ⊢
          have gn := grown_trans g gs
          refine hK.out _ _ gn (fun hHeld => ?_)
          clear hK K
          try simp only [Act.put]
          refine wpAnyH_take (i := 3) (v := ?_) rfl (by kernel_rfl) (by kernel_rfl) (by kernel_rfl) (fun _ _ _ h => h) (Or.inl ⟨by kernel_rfl, ?_⟩) (by assumption) ?_
          rotate_left 1
          · (intro wS hSw; go_simp; (try with_reducible rfl))
          try simp only [Act.put]
          have h1 := box_kept h1 gs
          have h2 := box_kept h2 gs
          clear g gs hHeld
          exact N0_2_5 u b0 b1 b2 gn h0 h1 h2
        refine AllReadyH.cons rfl (fun K hK => ?_) ?_
        · have hb3 := g.size
          go_simp
          have h3 := heap_alloc_new v (.cells #[.int .i64 0, .slice none 0 0, .slice none 0 0] 32)
          have gs := grown_new v (.cells #[.int .i64 0, .slice none 0 0, .slice none 0 0] 32)
          generalize hvn : v.alloc (.cells #[.int .i64 0, .slice none 0 0, .slice none 0 0] 32) = u at h3 gs ⊢
          clear hvn
          generalize v.heap.size = b3 at h3 hb3 ⊢
          have gn := grown_trans g gs
          refine hK.out _ _ gn (fun hHeld => ?_)
          clear hK K
          try simp only [Act.put]
          have h1 := box_kept h1 gs
          have h2 := box_kept h2 gs
          clear g gs hHeld
          refine cast ?_ (N2_5_10 u b1 b2 b3 gn h1 h2 h3 hb3)
          kernel_rfl
        exact AllReadyH.nil
      · intro v b0 b3 g h0 h3 hb3
        refine wpAnyH_ready (rs := [2, 5]) (by kernel_rfl) (by simp) ?_
        refine AllReadyH.cons rfl (fun K hK => ?_) ?_
        · go_simp
          refine (MI.out v).mono ?_
          rintro e u ⟨rfl, hvn⟩
          have h1 := heap_alloc_new v (.cells #[.string ⟨#[112, 97, 100, 115]⟩, .int .i64 7, .int .i64 0, .int .i64 0, .string ⟨#[]⟩, .int .i64 0, .slice none 0 0, .slice none 0 0, .slice sa P.length sc] 41)
          rw [← hvn] at h1
          have gs : v.grownBy u none := by rw [hvn]; exact grown_new _ _
          clear hvn
          generalize v.heap.size = b1 at h1 ⊢
          have gn := grown_trans g gs
          refine hK.out _ _ gn (fun hHeld => ?_)
          clear hK K
          try simp only [Act.put]
          refine wpAnyH_take (i := 3) (v := ?_) rfl (by kernel_rfl) (by kernel_rfl) (by kernel_rfl) (fun _ _ _ h => h) (Or.inl ⟨by kernel_rfl, ?_⟩) (by assumption) ?_
          rotate_left 1
          · (intro wS hSw; go_simp; (try with_reducible rfl))
          try simp only [Act.put]
          have h0 := box_kept h0 gs
          have h3 := box_kept h3 gs
          clear g gs hHeld
          refine cast ?_ (N0_2_10 u b0 b1 b3 gn h0 h1 h3 hb3)
          kernel_rfl
        refine AllReadyH.cons rfl (fun K hK => ?_) ?_
        · go_simp
          have h2 := heap_alloc_new v (.cells #[.int .i64 tx, .slice xa x.length xc, .slice ua un uc] 32)
          have gs := grown_new v (.cells #[.int .i64 tx, .slice xa x.length xc, .slice ua un uc] 32)
          generalize hvn : v.alloc (.cells #[.int .i64 tx, .slice xa x.length xc, .slice ua un uc] 32) = u at h2 gs ⊢
          clear hvn
          generalize v.heap.size = b2 at h2 ⊢
          have gn := grown_trans g gs
          refine hK.out _ _ gn (fun hHeld => ?_)
          clear hK K
          try simp only [Act.put]
          have h0 := box_kept h0 gs
          have h3 := box_kept h3 gs
          clear g gs hHeld
          refine cast ?_ (N0_5_10 u b0 b2 b3 gn h0 h2 h3 hb3)
          kernel_rfl
        exact AllReadyH.nil
      · intro v b0 b2 g h0 h2
        refine wpAnyH_ready (rs := [2, 10]) (by kernel_rfl) (by simp) ?_
        refine AllReadyH.cons rfl (fun K hK => ?_) ?_
        · go_simp
          refine (MI.out v).mono ?_
          rintro e u ⟨rfl, hvn⟩
          have h1 := heap_alloc_new v (.cells #[.string ⟨#[112, 97, 100, 115]⟩, .int .i64 7, .int .i64 0, .int .i64 0, .string ⟨#[]⟩, .int .i64 0, .slice none 0 0, .slice none 0 0, .slice sa P.length sc] 41)
          rw [← hvn] at h1
          have gs : v.grownBy u none := by rw [hvn]; exact grown_new _ _
          clear hvn
          generalize v.heap.size = b1 at h1 ⊢
          have gn := grown_trans g gs
          refine hK.out _ _ gn (fun hHeld => ?_)
          clear hK K
          try simp only [Act.put]
          refine wpAnyH_take (i := 3) (v := ?_) rfl (by kernel_rfl) (by kernel_rfl) (by kernel_rfl) (fun _ _ _ h => h) (Or.inl ⟨by kernel_rfl, ?_⟩) (by assumption) ?_
          rotate_left 1
          · (intro wS hSw; go_simp; (try with_reducible rfl))
          try simp only [Act.put]
          have h0 := box_kept h0 gs
          have h2 := box_kept h2 gs
          clear g gs hHeld
          refine cast ?_ (N0_2_5 u b0 b1 b2 gn h0 h1 h2)
          kernel_rfl
        refine AllReadyH.cons rfl (fun K hK => ?_) ?_
        · have hb3 := g.size
          go_simp
          have h3 := heap_alloc_new v (.cells #[.int .i64 0, .slice none 0 0, .slice none 0 0] 32)
          have gs := grown_new v (.cells #[.int .i64 0, .slice none 0 0, .slice none 0 0] 32)
          generalize hvn : v.alloc (.cells #[.int .i64 0, .slice none 0 0, .slice none 0 0] 32) = u at h3 gs ⊢
          clear hvn
          generalize v.heap.size = b3 at h3 hb3 ⊢
          have gn := grown_trans g gs
          refine hK.out _ _ gn (fun hHeld => ?_)
          clear hK K
          try simp only [Act.put]
          have h0 := box_kept h0 gs
          have h2 := box_kept h2 gs
          clear g gs hHeld
          refine cast ?_ (N0_5_10 u b0 b2 b3 gn h0 h2 h3 hb3)
          kernel_rfl
        exact AllReadyH.nil
      · intro v b0 b1 g h0 h1
        refine wpAnyH_ready (rs := [5, 10]) (by kernel_rfl) (by simp) ?_
        refine AllReadyH.cons rfl (fun K hK => ?_) ?_
        · go_simp
          have h2 := heap_alloc_new v (.cells #[.int .i64 tx, .slice xa x.length xc, .slice ua un uc] 32)
          have gs := grown_new v (.cells #[.int .i64 tx, .slice xa x.length xc, .slice ua un uc] 32)
          generalize hvn : v.alloc (.cells #[.int .i64 tx, .slice xa x.length xc, .slice ua un uc] 32) = u at h2 gs ⊢
          clear hvn
          generalize v.heap.size = b2 at h2 ⊢
          have gn := grown_trans g gs
          refine hK.out _ _ gn (fun hHeld => ?_)
          clear hK K
          try simp only [Act.put]
          have h0 := box_kept h0 gs
          have h1 := box_kept h1 gs
          clear g gs hHeld
          refine cast ?_ (N0_2_5 u b0 b1 b2 gn h0 h1 h2)
          kernel_rfl
        refine AllReadyH.cons rfl (fun K hK => ?_) ?_
        · have hb3 := g.size
          go_simp
          have h3 := heap_alloc_new v (.cells #[.int .i64 0, .slice none 0 0, .slice none 0 0] 32)
          have gs := grown_new v (.cells #[.int .i64 0, .slice none 0 0, .slice none 0 0] 32)
          generalize hvn : v.alloc (.cells #[.int .i64 0, .slice none 0 0, .slice none 0 0] 32) = u at h3 gs ⊢
          clear hvn
          generalize v.heap.size = b3 at h3 hb3 ⊢
          have gn := grown_trans g gs
          refine hK.out _ _ gn (fun hHeld => ?_)
          clear hK K
          try simp only [Act.put]
          have h0 := box_kept h0 gs
          have h1 := box_kept h1 gs
          clear g gs hHeld
          refine cast ?_ (N0_2_10 u b0 b1 b3 gn h0 h1 h3 hb3)
          kernel_rfl
        exact AllReadyH.nil
      · intro v b1 b2 b3 g h1 h2 h3 hb3
        refine wpAnyH_ready (rs := [0]) (by kernel_rfl) (by simp) ?_
        refine AllReadyH.cons rfl (fun K hK => ?_) ?_
        · go_simp
          have h0 := heap_alloc_new v (.cells #[.string ⟨#[120]⟩] 9)
          have gs := grown_new v (.cells #[.string ⟨#[120]⟩] 9)
          generalize hvn : v.alloc (.cells #[.string ⟨#[120]⟩] 9) = u at h0 gs ⊢
          clear hvn
          generalize v.heap.size = b0 at h0 ⊢
          have gn := grown_trans g gs
          refine hK.out _ _ gn (fun hHeld => ?_)
          clear hK K
          try simp only [Act.put]
          refine wpAnyH_take (i := 3) (v := ?_) rfl (by kernel_rfl) (by kernel_rfl) (by kernel_rfl) (fun _ _ _ h => h) (Or.inl ⟨by kernel_rfl, ?_⟩) (by assumption) ?_
          rotate_left 1
          · (intro wS hSw; go_simp; (try with_reducible rfl))
          try simp only [Act.put]
          have h1 := box_kept h1 gs
          have h2 := box_kept h2 gs
          have h3 := box_kept h3 gs
          clear g gs hHeld
          exact N0_2_5_10 u b0 b1 b2 b3 gn h0 h1 h2 h3 hb3
        exact AllReadyH.nil
      · intro v b0 b2 b3 g h0 h2 h3 hb3
        refine wpAnyH_ready (rs := [2]) (by kernel_rfl) (by simp) ?_
        refine AllReadyH.cons rfl (fun K hK => ?_) ?_
        · go_simp
          refine (MI.out v).mono ?_
          rintro e u ⟨rfl, hvn⟩
          have h1 := heap_alloc_new v (.cells #[.string ⟨#[112, 97, 100, 115]⟩, .int .i64 7, .int .i64 0, .int .i64 0, .string ⟨#[]⟩, .int .i64 0, .slice none 0 0, .slice none 0 0, .slice sa P.length sc] 41)
          rw [← hvn] at h1
          have gs : v.grownBy u none := by rw [hvn]; exact grown_new _ _
          clear hvn
          generalize v.heap.size = b1 at h1 ⊢
          have gn := grown_trans g gs
          refine hK.out _ _ gn (fun hHeld => ?_)
          clear hK K
          try simp only [Act.put]
          refine wpAnyH_take (i := 3) (v := ?_) rfl (by kernel_rfl) (by kernel_rfl) (by kernel_rfl) (fun _ _ _ h => h) (Or.inl ⟨by kernel_rfl, ?_⟩) (by assumption) ?_
          rotate_left 1
          · (intro wS hSw; go_simp; (try with_reducible rfl))
          try simp only [Act.put]
          have h0 := box_kept h0 gs
          have h2 := box_kept h2 gs
          have h3 := box_kept h3 gs
          clear g gs hHeld
          refine cast ?_ (N0_2_5_10 u b0 b1 b2 b3 gn h0 h1 h2 h3 hb3)
          kernel_rfl
        exact AllReadyH.nil
      · intro v b0 b1 b3 g h0 h1 h3 hb3
        refine wpAnyH_ready (rs := [5]) (by kernel_rfl) (by simp) ?_
        refine AllReadyH.cons rfl (fun K hK => ?_) ?_
        · go_simp
          have h2 := heap_alloc_new v (.cells #[.int .i64 tx, .slice xa x.length xc, .slice ua un uc] 32)
          have gs := grown_new v (.cells #[.int .i64 tx, .slice xa x.length xc, .slice ua un uc] 32)
          generalize hvn : v.alloc (.cells #[.int .i64 tx, .slice xa x.length xc, .slice ua un uc] 32) = u at h2 gs ⊢
          clear hvn
          generalize v.heap.size = b2 at h2 ⊢
          have gn := grown_trans g gs
          refine hK.out _ _ gn (fun hHeld => ?_)
          clear hK K
          try simp only [Act.put]
          have h0 := box_kept h0 gs
          have h1 := box_kept h1 gs
          have h3 := box_kept h3 gs
          clear g gs hHeld
          refine cast ?_ (N0_2_5_10 u b0 b1 b2 b3 gn h0 h1 h2 h3 hb3)
          kernel_rfl
        exact AllReadyH.nil
      · intro v b0 b1 b2 g h0 h1 h2
        refine wpAnyH_ready (rs := [6, 10]) (by kernel_rfl) (by simp) ?_
        refine AllReadyH.cons rfl (fun K hK => ?_) ?_
        · go_simp
          refine (E1.out v b0 b1 b2 g h0 h1 h2).mono ?_
          intro e u hq
          obtain ⟨hgd, ⟨aa, an, ac⟩, ⟨ad, am, ak⟩, rfl, hla⟩ := do_past hq
          have gn := grown_trans g hgd
          refine hK.out _ _ gn (fun hHeld => ?_)
          clear hK K
          try simp only
          skip
          refine wpAnyH_take (i := 7) (v := ?_) rfl (by kernel_rfl) (by kernel_rfl) (by kernel_rfl) (fun _ _ _ h => h) (Or.inl ⟨by kernel_rfl, ?_⟩) (by assumption) ?_
          rotate_left 1
          · (intro wS hSw; go_simp; (try with_reducible rfl))
          try simp only [Act.put]
          refine wpAnyH_take (i := 8) (v := ?_) rfl (by kernel_rfl) (by kernel_rfl) (by kernel_rfl) (fun _ _ _ h => h) (Or.inl ⟨by kernel_rfl, ?_⟩) (by assumption) ?_
          rotate_left 1
          · (intro wS hSw; go_simp; (try with_reducible rfl))
          try simp only [Act.put]
          refine wpAnyH_take (i := 9) (v := ?_) rfl (by kernel_rfl) (by kernel_rfl) (by kernel_rfl) (fun _ _ _ h => h) (Or.inl ⟨by kernel_rfl, ?_⟩) (by assumption) ?_
          rotate_left 1
          · (intro wS hSw; go_simp; (try with_reducible rfl))
          try simp only [Act.put]
          refine wpAnyH_ready (rs := [10]) (by kernel_rfl) (by simp) ?_
          refine AllReadyH.cons rfl (fun K hK => ?_) AllReadyH.nil
          go_simp
          have kB := heap_alloc_new u (.cells #[.int .i64 0, .slice none 0 0, .slice none 0 0] 32)
          have gs := grown_new u (.cells #[.int .i64 0, .slice none 0 0, .slice none 0 0] 32)
          have hb3 := gn.size
          have LB : Hid (∀ wx, u.grownBy wx none → IsInts wx (.slice aa an ac) (rL r) ∧ IsInts wx (.slice ad am ak) (rZ r)) := fun wx hx => hla v.heap.size.pred wx (Nat.pred_lt (by have := (Array.getElem?_eq_some_iff.1 h0).1; omega)) ⟨hx.1, hx.2, hx.3, hx.4, fun i hi _ => hx.5 i hi (by simp)⟩
          have gn2 := grown_trans gn gs
          refine hK.out _ _ gn2 (fun hHeld => ?_)
          clear hK K
          try simp only [Act.put]
          generalize hvn : u.alloc (.cells #[.int .i64 0, .slice none 0 0, .slice none 0 0] 32) = y at kB gs gn2 hHeld ⊢
          clear hvn
          have lu := Nat.le_refl u.heap.size
          obtain ⟨b3, hb⟩ : ∃ b, b = u.heap.size := ⟨_, rfl⟩
          have LC : Hid (∀ wx, y.grownBy wx (some b3) → IsInts wx (.slice aa an ac) (rL r) ∧ IsInts wx (.slice ad am ak) (rZ r)) := fun wx hx => LB.out wx (grown_drop gs hx (by rw [hb]; exact Nat.le_refl _))
          rw [← hb] at kB hb3 ⊢
          clear hb lu LB gs
          replace LB := LC
          replace gn := gn2
          clear LC gn2
          obtain ⟨k0, k1, k2⟩ := ten_cells kB
          obtain ⟨f0, f1, f2⟩ := ten_frozen kB
          obtain ⟨st, sg⟩ := store3t (.int .i64 (rTy r)) (.slice aa an ac) (.slice ad am ak) kB
          refine wpAnyH_ready (rs := [11]) (by kernel_rfl) (by simp) ?_
          refine AllReadyH.cons rfl (fun K hK => ?_) AllReadyH.nil
          go_simp
          have gz := grown_drop gn sg hb3
          refine hK.out _ _ gz (fun hHeld => ?_)
          clear hK K
          try simp only [Act.put]
          refine wpAnyH_take (i := 12) (v := ?_) rfl (by kernel_rfl) (by kernel_rfl) (by kernel_rfl) (fun _ _ _ h => h) (Or.inl ⟨by kernel_rfl, ?_⟩) (by assumption) ?_
          rotate_left 1
          · (intro wS hSw; go_simp; (try with_reducible rfl))
          try simp only [Act.put]
          refine wpAnyH_done (by kernel_rfl) ?_ _
          have RE := LB.out _ sg
          clear h0 h1 h2 hq hla kB k0 k1 k2 f0 f1 f2 g gn hHeld
          go_simp
          go_wp2_with fail
          go_meet
          exact ⟨gz, b3, ⟨aa, an, ac⟩, ⟨ad, am, ak⟩, rfl, rfl, hb3, st, RE.1, RE.2⟩
        refine AllReadyH.cons rfl (fun K hK => ?_) ?_
        · have hb3 := g.size
          go_simp
          have h3 := heap_alloc_new v (.cells #[.int .i64 0, .slice none 0 0, .slice none 0 0] 32)
          have gs := grown_new v (.cells #[.int .i64 0, .slice none 0 0, .slice none 0 0] 32)
          generalize hvn : v.alloc (.cells #[.int .i64 0, .slice none 0 0, .slice none 0 0] 32) = u at h3 gs ⊢
          clear hvn
          generalize v.heap.size = b3 at h3 hb3 ⊢
          have gn := grown_trans g gs
          refine hK.out _ _ gn (fun hHeld => ?_)
          clear hK K
          try simp only [Act.put]
          have h0 := box_kept h0 gs
          have h1 := box_kept h1 gs
          have h2 := box_kept h2 gs
          clear g gs hHeld
          refine cast ?_ (N0_2_5_10 u b0 b1 b2 b3 gn h0 h1 h2 h3 hb3)
          kernel_rfl
        exact AllReadyH.nil
      · intro v b0 b1 b2 b3 g h0 h1 h2 h3 hb3
        refine wpAnyH_ready (rs := [6]) (by kernel_rfl) (by simp) ?_
        refine AllReadyH.cons rfl (fun K hK => ?_) ?_
        · go_simp
          refine (E1.out v b0 b1 b2 g h0 h1 h2).mono ?_
          intro e u hq
          obtain ⟨hgd, ⟨aa, an, ac⟩, ⟨ad, am, ak⟩, rfl, hla⟩ := do_past hq
          have gn := grown_trans g hgd
          refine hK.out _ _ gn (fun hHeld => ?_)
          clear hK K
          try simp only
          have kB := box_kept h3 hgd
          have LB : Hid (∀ wx, u.grownBy wx (some b3) → IsInts wx (.slice aa an ac) (rL r) ∧ IsInts wx (.slice ad am ak) (rZ r)) := fun wx hx => hla b3 wx (Array.getElem?_eq_some_iff.1 h3).1 hx
          refine wpAnyH_take (i := 7) (v := ?_) rfl (by kernel_rfl) (by kernel_rfl) (by kernel_rfl) (fun _ _ _ h => h) (Or.inl ⟨by kernel_rfl, ?_⟩) (by assumption) ?_
          rotate_left 1
          · (intro wS hSw; go_simp; (try with_reducible rfl))
          try simp only [Act.put]
          refine wpAnyH_take (i := 8) (v := ?_) rfl (by kernel_rfl) (by kernel_rfl) (by kernel_rfl) (fun _ _ _ h => h) (Or.inl ⟨by kernel_rfl, ?_⟩) (by assumption) ?_
          rotate_left 1
          · (intro wS hSw; go_simp; (try with_reducible rfl))
          try simp only [Act.put]
          refine wpAnyH_take (i := 9) (v := ?_) rfl (by kernel_rfl) (by kernel_rfl) (by kernel_rfl) (fun _ _ _ h => h) (Or.inl ⟨by kernel_rfl, ?_⟩) (by assumption) ?_
          rotate_left 1
          · (intro wS hSw; go_simp; (try with_reducible rfl))
          try simp only [Act.put]
          obtain ⟨k0, k1, k2⟩ := ten_cells kB
          obtain ⟨f0, f1, f2⟩ := ten_frozen kB
          obtain ⟨st, sg⟩ := store3t (.int .i64 (rTy r)) (.slice aa an ac) (.slice ad am ak) kB
          refine wpAnyH_ready (rs := [11]) (by kernel_rfl) (by simp) ?_
          refine AllReadyH.cons rfl (fun K hK => ?_) AllReadyH.nil
          go_simp
          have gz := grown_drop gn sg hb3
          refine hK.out _ _ gz (fun hHeld => ?_)
          clear hK K
          try simp only [Act.put]
          refine wpAnyH_take (i := 12) (v := ?_) rfl (by kernel_rfl) (by kernel_rfl) (by kernel_rfl) (fun _ _ _ h => h) (Or.inl ⟨by kernel_rfl, ?_⟩) (by assumption) ?_
          rotate_left 1
          · (intro wS hSw; go_simp; (try with_reducible rfl))
          try simp only [Act.put]
          refine wpAnyH_done (by kernel_rfl) ?_ _
          have RE := LB.out _ sg
          clear h0 h1 h2 h3 hq hla kB k0 k1 k2 f0 f1 f2 g gn hHeld
          go_simp
          go_wp2_with fail
          go_meet
          exact ⟨gz, b3, ⟨aa, an, ac⟩, ⟨ad, am, ak⟩, rfl, rfl, hb3, st, RE.1, RE.2⟩
        exact AllReadyH.nil
    case rest =>
      obtain ⟨hgc, B, ⟨aa, an, ac⟩, ⟨ad, am, ak⟩, rfl, rfl, hB, hb, ia, ja⟩ := hcut
      simp only at hb ia ja
      have GC := hide (grown_trans G1.out hgc)
      have GC0 := hide (grown_trans G01.out hgc)
      have LC := hide (LV.out wc GC.out)
      obtain ⟨_, _, ea, -⟩ := ja.sl
      simp only [Sl.v, Value.slice.injEq] at ea ia ja
      obtain ⟨-, rfl, -⟩ := ea
      have IA := hide ia
      have JA := hide ja
      have BB := hide hb
      have HB := hide hB
      obtain ⟨y0, y1, y2⟩ := ten_cells hb
      obtain ⟨x0, x1, x2⟩ := ten_cells (BX.out wc GC0.out)
      clear hgc ia ja hb hB L1 E1 MI
      cases r with
      | error c =>
        have hc0 : (rC (Except.error c : R (Int × List Int × List Int)) != 0) = true := by
          have hn : c ≠ 0 := nz_padG _ _ _ _ c HR.out.symm
          simpa [rC] using hn
        go_wp2_with fail
        refine LC.out.mono ?_
        rintro e u4 ⟨rfl, hg4⟩
        go_wp2
        go_ret
        exact ⟨rfl, grown_below (grown_trans GC.out hg4)⟩
      | ok rr =>
        obtain ⟨ty, l, zs⟩ := rr
        have hc0 : (rC (Except.ok (ty, l, zs) : R (Int × List Int × List Int)) != 0) = false := rfl
        obtain ⟨hPl, hPr, -⟩ := cut_answer (s1 := ⟨none, 0, 0⟩) (s2 := ⟨none, 0, 0⟩) HR.out.symm
        have hx6 : x.length ≤ 6 := (fine_of (padG_inv HR.out.symm).2.2.1).few
        have PR := hide hPr
        clear hPr
        simp only [rZ] at y2 JA
        by_cases hz : 2000 < zs.length
        · have t1 : decide ((2000 : Int) < (zs.length : Int)) = true := by simpa using (by omega : (2000 : Int) < (zs.length : Int))
          go_wp2_with fail
          refine LC.out.mono ?_
          rintro e u4 ⟨rfl, hg4⟩
          go_wp2
          go_ret
          exact ⟨rfl, grown_below (grown_trans GC.out hg4)⟩
        · have t1 : decide ((2000 : Int) < (zs.length : Int)) = false := by simpa using (by omega : ¬ (2000 : Int) < (zs.length : Int))
          have w2' : IntKind.i64.wrap (2 * (x.length : Int)) = (P.length : Int) := by rw [wrap_i64_eq]; unfold wrap64; omega
          go_wp2_with fail
          have hPg : 2 * x.length ≤ P.length := by omega
          have HPL := hide hPl
          clear t1 w2' hc0 x0 x1 x2 y0 y1 y2 hPl
          have nilE : ∀ (wr : World) (b : Nat), OwnsE wr b (.slice none 0 0) [] := fun wr b => ⟨⟨by simp, .inl ⟨rfl, by simp⟩⟩, by simp, fun z hz => by simp at hz⟩
          go_loopw [7, 8, 9] (fun sv ev i wr => wc.grownBy wr none ∧ ∃ (k : Nat) (va ea : Option Addr) (vc ec : Nat), k ≤ x.length ∧ i = .int .i64 k ∧ sv = .slice va k vc ∧ ev = .slice ea k ec ∧ OwnsE wr wc.heap.size (.slice va k vc) (P.take k) ∧ OwnsE wr wc.heap.size (.slice ea k ec) ((endsL P x).take k) ∧ ∀ b, (Value.slice va k vc).ownBlock = some b → (Value.slice ea k ec).ownBlock ≠ some b) (fun _ _ i _ => x.length - (intOf i).toNat)
          case atStart => exact ⟨grown_refl _, 0, none, none, 0, 0, Nat.zero_le _, rfl, rfl, rfl, nilE _ _, nilE _ _, by simp [Value.ownBlock]⟩
          case round =>
            obtain ⟨hg, k, va, ea, vc, ec, hk, rfl, rfl, rfl, hs, he, hd⟩ := hrel
            have HG := hide hg
            have HS := hide hs
            have HE := hide he
            have HDJ := hide hd
            have hsz : wc.heap.size ≤ wr.heap.size := hg.size
            obtain ⟨x0, x1, x2⟩ := ten_cells (BX.out wr (grown_trans GC0.out hg))
            clear hs he hd nilE
            by_cases hlt : k < x.length
            · obtain ⟨pb, po, rfl, hcp⟩ := HP.out.get (k := k) (by omega)
              obtain ⟨xb, xo, rfl, hcx⟩ := HX.out.get (k := k) hlt
              have q0 := cell_still (hcp k (by omega)) (grown_trans GC.out hg)
              have q1 := cell_still (hcx k hlt) (grown_trans GC.out hg)
              have pr := PR.out (P.getD k 0) (getD_mem3 (by omega))
              obtain ⟨p, hp⟩ : ∃ z, z = P.getD k 0 := ⟨_, rfl⟩
              obtain ⟨d, hdd⟩ : ∃ z, z = x.getD k 0 := ⟨_, rfl⟩
              rw [← hp] at q0 pr
              rw [← hdd] at q1
              have l1 : (k : Int) < (x.length : Int) := by omega
              have l2 : (k : Int) < (P.length : Int) := by omega
              have l3 : (k : Int) < 2 * (x.length : Int) := by omega
              have OW : Hid (∀ o, (wr.alloc o).ownsRow wc.heap.size 2 1 (.slice va k vc) k ((P.take k).map (Value.int .i64))) := fun o => ownsE_at (HS.out.more (grown_new _ o) (by cases (Value.slice va k vc).ownBlock <;> simp)) (by rw [List.length_take]; omega)
              have HPK := hide hp
              have HDK := hide hdd
              have q0c := cell_still (hcp k (by omega)) GC.out
              have q1c := cell_still (hcx k hlt) GC.out
              rw [← hp] at q0c
              rw [← hdd] at q1c
              clear hg hcp hcx hp hdd
              go_wp2_with (at_builtin; refine wpList_append_lies _ rfl (.tmp 62) (.tmp 67) 30 rfl wc.heap.size 2 i0 (.int .i64 0) 1 8 Tryz.underlying30 hi0 hz0 hz1 hz2 rfl (by decide) (.slice va k vc) k ((P.take k).map (Value.int .i64)) rfl (by exact OW.out _) ⟨wr.heap.size, 0, none⟩ 1 1 [.int .i64 p] rfl rfl (by exact World.news_of_block (by have h := heap_alloc_new wr (.cells #[.int .i64 p] 2); simpa using h)) (int_one p) (by omega) (by simp only [maxLen]; omega) (by omega) (by simp; omega) (wr.heap.size + 1) (by simp) ?_; intro gg cap8 w8 hown8 hgrow hat hlt8)
              have GE := grown_new wr (.cells #[.int .i64 p] 2)
              have NB : ∀ b, (Value.slice ea k ec).ownBlock = some b → b < wr.heap.size := fun b hb => (World.ownsRow.lt HE.out.1 b hb).2
              have HE8 := hide ((HE.out.more GE (by cases (Value.slice ea k ec).ownBlock <;> simp)).more hgrow (by
                cases e1 : (Value.slice ea k ec).ownBlock with
                | none => exact .inl rfl
                | some b => exact .inr (fun e2 => HDJ.out b e2.symm e1)))
              have GG : Hid (wc.heap.size ≤ gg ∧ ∀ b, (Value.slice ea k ec).ownBlock = some b → gg ≠ b) := ⟨(World.ownsRow.lt hown8 gg rfl).1, fun b hb e => by
                rcases hat with h | h
                · exact HDJ.out gg h (by rw [hb, e])
                · have := NB b hb; omega⟩
              have ST1 := hide (grown_trans_row (grown_trans HG.out GE) hgrow (fun r e => (World.ownsRow.lt HS.out.1 r e).1))
              have TK : P.take (k + 1) = P.take k ++ [p] := by rw [List.take_add_one, List.getElem?_eq_getElem (by omega), HPK.out]; simp [List.getD, show k < P.length by omega]
              have ST2 : Hid (OwnsE w8 wc.heap.size (.slice (some ⟨gg, 0, none⟩) (k + 1) cap8) (P.take (k + 1))) := by
                show OwnsE _ _ _ _
                rw [TK]
                exact ownsE_snoc (by rw [List.length_take]; omega) hown8 (by omega) (fun y hy => by have := PR.out y (List.mem_of_mem_take hy); omega) (by omega)
              have dr : 1 ≤ d ∧ d ≤ 65536 := by
                have F := fine_of (padG_inv HR.out.symm).2.2.1
                rw [HDK.out]
                exact ⟨F.at k hlt, F.le_each (getD_mem3 hlt)⟩
              have hw : IntKind.i64.wrap (p + d) = p + d := by rw [wrap_i64_eq]; unfold wrap64; omega
              have QP : Hid (∀ wx, wc.grownBy wx none → wx.cell? ⟨pb, po + k, none⟩ = some (.int .i64 p)) := fun wx hx => cell_still q0c hx
              have QX : Hid (∀ wx, wc.grownBy wx none → wx.cell? ⟨xb, xo + k, none⟩ = some (.int .i64 d)) := fun wx hx => cell_still q1c hx
              have QT : Hid (∀ wx, wc.grownBy wx none → wx.cell? ⟨w.heap.size, 1, none⟩ = some (.slice (some ⟨xb, xo, none⟩) x.length xc)) := fun wx hx => (ten_cells (BX.out wx (grown_trans GC0.out hx))).2.1
              clear hown8 hgrow hat hlt8 GE NB q0 q1 q0c q1c x0 x1 x2 TK
              refine wp_region_held_drew (S := fun w' => wc.grownBy w' none) (by kernel_rfl) (grown_drew ST1.out) (fun hHeld => ?_)
              refine wpAnyH_take (i := 0) (v := ?_) rfl (by kernel_rfl) (by kernel_rfl) (by kernel_rfl) (fun _ _ _ h => h) (Or.inl ⟨by kernel_rfl, ?_⟩) (by assumption) ?_
              rotate_left 1
              · (intro wS hSw; go_simp; (try with_reducible rfl))
              try simp only [Act.put]
              refine wpAnyH_take (i := 1) (v := ?_) rfl (by kernel_rfl) (by kernel_rfl) (by kernel_rfl) (fun _ _ _ h => h) (Or.inl ⟨by kernel_rfl, ?_⟩) (by assumption) ?_
              rotate_left 1
              · (intro wS hSw; go_simp; (try with_reducible rfl))
              try simp only [Act.put]
              refine wpAnyH_take (i := 2) (v := ?_) rfl (by kernel_rfl) (by kernel_rfl) (by kernel_rfl) (fun _ _ _ h => h) (Or.inl ⟨by kernel_rfl, ?_⟩) (by assumption) ?_
              rotate_left 1
              · (intro wS hSw; go_simp; (try with_reducible rfl))
              try simp only [Act.put]
              refine wpAnyH_take (i := 3) (v := ?_) rfl (by kernel_rfl) (by kernel_rfl) (by kernel_rfl) (fun _ _ _ h => h) (Or.inl ⟨by kernel_rfl, ?_⟩) (by assumption) ?_
              rotate_left 1
              · (intro wS hSw; go_simp; (try with_reducible rfl))
              try simp only [Act.put]
              refine wpAnyH_take (i := 4) (v := ?_) rfl (by kernel_rfl) (by kernel_rfl) (by kernel_rfl) (fun _ _ _ h => h) (Or.inl ⟨by kernel_rfl, ?_⟩) (by assumption) ?_
              rotate_left 1
              · (intro wS hSw; have c0 := QP.out _ hSw; go_simp; (try with_reducible rfl))
              try simp only [Act.put]
              refine wpAnyH_take (i := 5) (v := ?_) rfl (by kernel_rfl) (by kernel_rfl) (by kernel_rfl) (fun _ _ _ h => h) (Or.inl ⟨by kernel_rfl, ?_⟩) (by assumption) ?_
              rotate_left 1
              · (intro wS hSw; go_simp; (try with_reducible rfl))
              try simp only [Act.put]
              refine wpAnyH_take (i := 6) (v := ?_) rfl (by kernel_rfl) (by kernel_rfl) (by kernel_rfl) (fun _ _ _ h => h) (Or.inl ⟨by kernel_rfl, ?_⟩) (by assumption) ?_
              rotate_left 1
              · (intro wS hSw; have c0 := QT.out _ hSw; go_simp; (try with_reducible rfl))
              try simp only [Act.put]
              refine wpAnyH_take (i := 7) (v := ?_) rfl (by kernel_rfl) (by kernel_rfl) (by kernel_rfl) (fun _ _ _ h => h) (Or.inl ⟨by kernel_rfl, ?_⟩) (by assumption) ?_
              rotate_left 1
              · (intro wS hSw; go_simp; (try with_reducible rfl))
              try simp only [Act.put]
              refine wpAnyH_take (i := 8) (v := ?_) rfl (by kernel_rfl) (by kernel_rfl) (by kernel_rfl) (fun _ _ _ h => h) (Or.inl ⟨by kernel_rfl, ?_⟩) (by assumption) ?_
              rotate_left 1
              · (intro wS hSw; go_simp; (try with_reducible rfl))
              try simp only [Act.put]
              refine wpAnyH_take (i := 9) (v := ?_) rfl (by kernel_rfl) (by kernel_rfl) (by kernel_rfl) (fun _ _ _ h => h) (Or.inl ⟨by kernel_rfl, ?_⟩) (by assumption) ?_
              rotate_left 1
              · (intro wS hSw; have c0 := QX.out _ hSw; go_simp; (try with_reducible rfl))
              try simp only [Act.put]
              refine wpAnyH_take (i := 10) (v := .int .i64 (p + d)) rfl (by kernel_rfl) (by kernel_rfl) (by kernel_rfl) (fun _ _ _ h => h) (Or.inl ⟨by kernel_rfl, ?_⟩) (by assumption) ?_
              · (intro wS hSw; go_simp; (try simp only [hw]))
              try simp only [Act.put]
              have E8 : Hid (OwnsE w8.drew wc.heap.size (.slice ea k ec) ((endsL P x).take k)) := HE8.out.more (grown_drew (grown_refl _)) (by cases (Value.slice ea k ec).ownBlock <;> simp)
              have S8 : Hid (OwnsE w8.drew wc.heap.size (.slice (some ⟨gg, 0, none⟩) (k + 1) cap8) (P.take (k + 1))) := ST2.out.more (grown_drew (grown_refl _)) (.inr (by simp [Value.ownBlock]))
              generalize hv8 : w8.drew = v8 at E8 S8 hHeld ⊢
              clear hv8
              refine wpAnyH_ready (rs := [11]) (by kernel_rfl) (by simp) ?_
              refine AllReadyH.cons rfl (fun K hK => ?_) AllReadyH.nil
              go_simp
              have b1 := heap_alloc_new v8 (.cells #[.int .i64 (p + d)] 2)
              have gs := grown_new v8 (.cells #[.int .i64 (p + d)] 2)
              have zs9 : (v8.alloc (.cells #[.int .i64 (p + d)] 2)).heap.size = v8.heap.size + 1 := by simp
              have gn := grown_trans hHeld gs
              refine hK.out _ _ gn (fun hHeld2 => ?_)
              clear hK K
              try simp only [Act.put]
              generalize hv9 : v8.alloc (.cells #[.int .i64 (p + d)] 2) = v9 at b1 gs zs9 gn hHeld2 ⊢
              clear hv9
              have E9 := hide (E8.out.more gs (by cases (Value.slice ea k ec).ownBlock <;> simp))
              have S9 := hide (S8.out.more gs (.inr (by simp [Value.ownBlock])))
              have hsz9 := gn.size
              refine wpAnyH_ready (rs := [12]) (by kernel_rfl) (by simp) ?_
              refine AllReadyH.cons rfl (fun K hK => ?_) AllReadyH.nil
              refine step_append_lies _ rfl (.tmp 69) (.tmp 80) 30 rfl wc.heap.size 2 i0 (.int .i64 0) 1 8 Tryz.underlying30 hi0 hz0 hz1 hz2 rfl (by decide) (.slice ea k ec) k (((endsL P x).take k).map (Value.int .i64)) rfl (ownsE_at E9.out (by rw [List.length_take, endsL_len (by omega)]; omega)) ⟨v8.heap.size, 0, none⟩ 1 1 [.int .i64 (p + d)] rfl rfl (World.news_of_block b1) (int_one _) (by omega) (by simp only [maxLen]; omega) (by omega) (by omega) _ rfl ?_
              intro g2 cap2 w9 hown9 hgrow9 hat9 hlt9
              have F1 := hide (grown_trans_row gn hgrow9 (fun r e => (World.ownsRow.lt E9.out.1 r e).1))
              have TE : (endsL P x).take (k + 1) = (endsL P x).take k ++ [p + d] := by rw [List.take_add_one, List.getElem?_eq_getElem (by rw [endsL_len (by omega)]; exact hlt), HPK.out, HDK.out, ← endsL_at (by omega) k hlt]; simp [List.getD, endsL_len (show x.length ≤ P.length by omega), hlt]
              have F2 : Hid (OwnsE w9 wc.heap.size (.slice (some ⟨g2, 0, none⟩) (k + 1) cap2) ((endsL P x).take (k + 1))) := by show OwnsE _ _ _ _; rw [TE]; exact ownsE_snoc (by rw [List.length_take, endsL_len (by omega)]; omega) hown9 (by omega) E9.out.2.2 (by omega)
              have F3 := hide (S9.out.more hgrow9 (.inr (fun e => by rw [show (Value.slice (some ⟨gg, 0, none⟩) (k + 1) cap8).ownBlock = some gg from rfl] at e; exact GG.out.2 gg e.symm rfl)))
              have F4 : Hid (g2 ≠ gg) := fun e => by
                rcases hat9 with h | h
                · exact GG.out.2 g2 h e.symm
                · have := (World.ownsRow.lt S8.out.1 gg rfl).2; omega
              refine hK.out _ _ F1.out (fun hHeld3 => ?_)
              clear hK K
              try simp only [Act.put]
              refine wpAnyH_take (i := 13) (v := ?_) rfl (by kernel_rfl) (by kernel_rfl) (by kernel_rfl) (fun _ _ _ h => h) (Or.inl ⟨by kernel_rfl, ?_⟩) (by assumption) ?_
              rotate_left 1
              · (intro wS hSw; go_simp; (try with_reducible rfl))
              try simp only [Act.put]
              refine wpAnyH_done (by kernel_rfl) ?_ _
              clear hown9 hgrow9 hat9 hlt9 TE b1 gs zs9 gn hHeld hHeld2 hHeld3 hsz9
              go_simp
              go_wp2_with fail
              go_roundw
              case rel => exact ⟨F1.out, k + 1, _, _, _, _, by omega, by go_num, rfl, rfl, F3.out, F2.out, fun b hb hb2 => F4.out (by simp only [Value.ownBlock, Option.some.injEq] at hb hb2; omega)⟩
              case measure => simp [intOf]; omega
            · have hke : k = x.length := by omega
              subst hke
              have GR := hide (grown_trans GC.out HG.out)
              have GR0 := hide (grown_trans GC0.out HG.out)
              simp only [rL, rTy, rZ] at BB IA
              obtain ⟨y0, y1, y2⟩ := ten_cells (box_kept BB.out HG.out)
              have BR := hide (box_kept BB.out HG.out)
              have IR := hide (IA.out.more HG.out)
              have JR := hide (JA.out.more HG.out)
              obtain ⟨r2, hr2⟩ : ∃ r2 : R (Int × List Int × List Int), r2 = .ok (tx, x, xs) := ⟨_, rfl⟩
              have CA := (cut_answer (s1 := ⟨va, x.length, vc⟩) (s2 := ⟨ea, x.length, ec⟩) HR.out.symm).2.2
              have TE : (endsL P x).take x.length = endsL P x := List.take_of_length_le (Nat.le_of_eq (endsL_len (by omega)))
              have E2 : Hid (∀ (v : World) (b0 g5 c5 b8 : Nat), wr.grownBy v none → v.heap[b0]? = some (.cells #[.string ⟨#[120]⟩] 9 (0, 0)) → IsAttrs v (.slice (some ⟨g5, 0, none⟩) (1 + 1) c5) [inA ⟨#[115, 116, 97, 114, 116, 115]⟩ ⟨va, x.length, vc⟩, inA ⟨#[101, 110, 100, 115]⟩ ⟨ea, x.length, ec⟩] → v.heap[b8]? = some (.cells #[.int .i64 ty, .slice aa an ac, .slice ad zs.length ak] 32 (0, 0)) → Calls Tryz.prog 11 #[.agg #[.string ⟨#[83, 108, 105, 99, 101]⟩, .string ⟨#[]⟩, .slice (some ⟨b0, 0, none⟩) 1 1, .string ⟨#[121]⟩, .slice (some ⟨g5, 0, none⟩) (1 + 1) c5], .slice (some ⟨b8, 0, none⟩) 1 1] v (DoQ v r2)) := fun v b0 g5 c5 b8 hg h0 h5 h8 => by
                have hgw := grown_trans GR.out hg
                have j1 := HS.out.ints.more hg
                have j2 := HE.out.ints.more hg
                rw [TE] at j2
                have k := sl_do ⟨⟨#[83, 108, 105, 99, 101]⟩, ⟨#[]⟩, ⟨some ⟨b0, 0, none⟩, 1, 1⟩, ⟨#[121]⟩, ⟨some ⟨g5, 0, none⟩, 1 + 1, c5⟩⟩ (cutAt ⟨va, x.length, vc⟩ ⟨ea, x.length, ec⟩ (P.take x.length) (endsL P x)) ⟨#[120]⟩ rfl ⟨some ⟨b8, 0, none⟩, 1, 1⟩ ⟨ty, ⟨aa, an, ac⟩, ⟨ad, zs.length, ak⟩⟩ l zs v (HL.out.more hgw) (cu_in (x_strs h0) j1 j2 h5) (cu_ok j1 j2 h5) (cu_check _ _ _ _) (cu_then _ _ _ _) (by show 1 ≤ 1048576; omega) (one_ten _ h8 (IR.out.more hg) (JR.out.more hg))
                rw [CA, ← hr2] at k
                exact k
              have M1 := hide (fun v => mints_any ⟨#[115, 116, 97, 114, 116, 115]⟩ ⟨va, x.length, vc⟩ v)
              have M2 := hide (fun v => mints_any ⟨#[101, 110, 100, 115]⟩ ⟨ea, x.length, ec⟩ v)
              simp only at M1 M2
              have HR2 := hide hr2
              clear hr2 CA TE hlt
              go_upto_region 13 with fail
              clear x0 x1 x2
              go_cut [10, 11] from 82 to 95 (fun t5 t6 wx => wr.grownBy wx none ∧ ∃ (B : Nat) (dv tv : Sl), t5 = .pointer (some ⟨B, 0, none⟩) ∧ t6 = .int .i64 (rC r2) ∧ wr.heap.size ≤ B ∧ wx.heap[B]? = some (.cells #[.int .i64 (rTy r2), .slice dv.a dv.n dv.c, .slice tv.a tv.n tv.c] 32 (0, 0)) ∧ IsInts wx dv.v (rL r2) ∧ IsInts wx tv.v (rZ r2))
              case first =>
                refine wp_region_held_drew (S := fun w' => wr.grownBy w' none) (by kernel_rfl) (grown_drew (grown_refl _)) (fun _ => ?_)
                refine' with_node (N := ∀ (v : World) (b0 : Nat) (b2 : Nat) (b4 : Nat) (g5 : Nat) (c5 : Nat) (b8 : Nat) (b13 : Nat), wr.grownBy v none → v.heap[b0]? = some (.cells #[.string ⟨#[120]⟩] 9 (0, 0)) → v.heap[b2]? = some (.cells #[.string ⟨#[115, 116, 97, 114, 116, 115]⟩, .int .i64 7, .int .i64 0, .int .i64 0, .string ⟨#[]⟩, .int .i64 0, .slice none 0 0, .slice none 0 0, .slice va x.length vc] 41 (0, 0)) → v.heap[b4]? = some (.cells #[.string ⟨#[101, 110, 100, 115]⟩, .int .i64 7, .int .i64 0, .int .i64 0, .string ⟨#[]⟩, .int .i64 0, .slice none 0 0, .slice none 0 0, .slice ea x.length ec] 41 (0, 0)) → IsAttrs v (.slice (some ⟨g5, 0, none⟩) (1 + 1) c5) [inA ⟨#[115, 116, 97, 114, 116, 115]⟩ ⟨va, x.length, vc⟩, inA ⟨#[101, 110, 100, 115]⟩ ⟨ea, x.length, ec⟩] → v.heap[b8]? = some (.cells #[.int .i64 ty, .slice aa an ac, .slice ad zs.length ak] 32 (0, 0)) → v.heap[b13]? = some (.cells #[.int .i64 0, .slice none 0 0, .slice none 0 0] 32 (0, 0)) → wr.heap.size ≤ b13 → (_ : World → Nat → Nat → Nat → Nat → Nat → Nat → Nat → Prop) v b0 b2 b4 g5 c5 b8 b13) (fun N0_2_4_5_8_13 => ?_) ?_
                rotate_left 1
                refine' with_node (N := ∀ (v : World) (b0 : Nat) (b2 : Nat) (b4 : Nat) (g5 : Nat) (c5 : Nat) (b8 : Nat), wr.grownBy v none → v.heap[b0]? = some (.cells #[.string ⟨#[120]⟩] 9 (0, 0)) → v.heap[b2]? = some (.cells #[.string ⟨#[115, 116, 97, 114, 116, 115]⟩, .int .i64 7, .int .i64 0, .int .i64 0, .string ⟨#[]⟩, .int .i64 0, .slice none 0 0, .slice none 0 0, .slice va x.length vc] 41 (0, 0)) → v.heap[b4]? = some (.cells #[.string ⟨#[101, 110, 100, 115]⟩, .int .i64 7, .int .i64 0, .int .i64 0, .string ⟨#[]⟩, .int .i64 0, .slice none 0 0, .slice none 0 0, .slice ea x.length ec] 41 (0, 0)) → IsAttrs v (.slice (some ⟨g5, 0, none⟩) (1 + 1) c5) [inA ⟨#[115, 116, 97, 114, 116, 115]⟩ ⟨va, x.length, vc⟩, inA ⟨#[101, 110, 100, 115]⟩ ⟨ea, x.length, ec⟩] → v.heap[b8]? = some (.cells #[.int .i64 ty, .slice aa an ac, .slice ad zs.length ak] 32 (0, 0)) → (_ : World → Nat → Nat → Nat → Nat → Nat → Nat → Prop) v b0 b2 b4 g5 c5 b8) (fun N0_2_4_5_8 => ?_) ?_
                rotate_left 1
                refine' with_node (N := ∀ (v : World) (b0 : Nat) (b2 : Nat) (b4 : Nat) (g5 : Nat) (c5 : Nat) (b13 : Nat), wr.grownBy v none → v.heap[b0]? = some (.cells #[.string ⟨#[120]⟩] 9 (0, 0)) → v.heap[b2]? = some (.cells #[.string ⟨#[115, 116, 97, 114, 116, 115]⟩, .int .i64 7, .int .i64 0, .int .i64 0, .string ⟨#[]⟩, .int .i64 0, .slice none 0 0, .slice none 0 0, .slice va x.length vc] 41 (0, 0)) → v.heap[b4]? = some (.cells #[.string ⟨#[101, 110, 100, 115]⟩, .int .i64 7, .int .i64 0, .int .i64 0, .string ⟨#[]⟩, .int .i64 0, .slice none 0 0, .slice none 0 0, .slice ea x.length ec] 41 (0, 0)) → IsAttrs v (.slice (some ⟨g5, 0, none⟩) (1 + 1) c5) [inA ⟨#[115, 116, 97, 114, 116, 115]⟩ ⟨va, x.length, vc⟩, inA ⟨#[101, 110, 100, 115]⟩ ⟨ea, x.length, ec⟩] → v.heap[b13]? = some (.cells #[.int .i64 0, .slice none 0 0, .slice none 0 0] 32 (0, 0)) → wr.heap.size ≤ b13 → (_ : World → Nat → Nat → Nat → Nat → Nat → Nat → Prop) v b0 b2 b4 g5 c5 b13) (fun N0_2_4_5_13 => ?_) ?_
                rotate_left 1
                refine' with_node (N := ∀ (v : World) (b0 : Nat) (b2 : Nat) (b4 : Nat) (b8 : Nat) (b13 : Nat), wr.grownBy v none → v.heap[b0]? = some (.cells #[.string ⟨#[120]⟩] 9 (0, 0)) → v.heap[b2]? = some (.cells #[.string ⟨#[115, 116, 97, 114, 116, 115]⟩, .int .i64 7, .int .i64 0, .int .i64 0, .string ⟨#[]⟩, .int .i64 0, .slice none 0 0, .slice none 0 0, .slice va x.length vc] 41 (0, 0)) → v.heap[b4]? = some (.cells #[.string ⟨#[101, 110, 100, 115]⟩, .int .i64 7, .int .i64 0, .int .i64 0, .string ⟨#[]⟩, .int .i64 0, .slice none 0 0, .slice none 0 0, .slice ea x.length ec] 41 (0, 0)) → v.heap[b8]? = some (.cells #[.int .i64 ty, .slice aa an ac, .slice ad zs.length ak] 32 (0, 0)) → v.heap[b13]? = some (.cells #[.int .i64 0, .slice none 0 0, .slice none 0 0] 32 (0, 0)) → wr.heap.size ≤ b13 → (_ : World → Nat → Nat → Nat → Nat → Nat → Prop) v b0 b2 b4 b8 b13) (fun N0_2_4_8_13 => ?_) ?_
                rotate_left 1
                refine' with_node (N := ∀ (v : World) (b2 : Nat) (b4 : Nat) (g5 : Nat) (c5 : Nat) (b8 : Nat) (b13 : Nat), wr.grownBy v none → v.heap[b2]? = some (.cells #[.string ⟨#[115, 116, 97, 114, 116, 115]⟩, .int .i64 7, .int .i64 0, .int .i64 0, .string ⟨#[]⟩, .int .i64 0, .slice none 0 0, .slice none 0 0, .slice va x.length vc] 41 (0, 0)) → v.heap[b4]? = some (.cells #[.string ⟨#[101, 110, 100, 115]⟩, .int .i64 7, .int .i64 0, .int .i64 0, .string ⟨#[]⟩, .int .i64 0, .slice none 0 0, .slice none 0 0, .slice ea x.length ec] 41 (0, 0)) → IsAttrs v (.slice (some ⟨g5, 0, none⟩) (1 + 1) c5) [inA ⟨#[115, 116, 97, 114, 116, 115]⟩ ⟨va, x.length, vc⟩, inA ⟨#[101, 110, 100, 115]⟩ ⟨ea, x.length, ec⟩] → v.heap[b8]? = some (.cells #[.int .i64 ty, .slice aa an ac, .slice ad zs.length ak] 32 (0, 0)) → v.heap[b13]? = some (.cells #[.int .i64 0, .slice none 0 0, .slice none 0 0] 32 (0, 0)) → wr.heap.size ≤ b13 → (_ : World → Nat → Nat → Nat → Nat → Nat → Nat → Prop) v b2 b4 g5 c5 b8 b13) (fun N2_4_5_8_13 => ?_) ?_
                rotate_left 1
                refine' with_node (N := ∀ (v : World) (b0 : Nat) (b2 : Nat) (b4 : Nat) (g5 : Nat) (c5 : Nat), wr.grownBy v none → v.heap[b0]? = some (.cells #[.string ⟨#[120]⟩] 9 (0, 0)) → v.heap[b2]? = some (.cells #[.string ⟨#[115, 116, 97, 114, 116, 115]⟩, .int .i64 7, .int .i64 0, .int .i64 0, .string ⟨#[]⟩, .int .i64 0, .slice none 0 0, .slice none 0 0, .slice va x.length vc] 41 (0, 0)) → v.heap[b4]? = some (.cells #[.string ⟨#[101, 110, 100, 115]⟩, .int .i64 7, .int .i64 0, .int .i64 0, .string ⟨#[]⟩, .int .i64 0, .slice none 0 0, .slice none 0 0, .slice ea x.length ec] 41 (0, 0)) → IsAttrs v (.slice (some ⟨g5, 0, none⟩) (1 + 1) c5) [inA ⟨#[115, 116, 97, 114, 116, 115]⟩ ⟨va, x.length, vc⟩, inA ⟨#[101, 110, 100, 115]⟩ ⟨ea, x.length, ec⟩] → (_ : World → Nat → Nat → Nat → Nat → Nat → Prop) v b0 b2 b4 g5 c5) (fun N0_2_4_5 => ?_) ?_
                rotate_left 1
                refine' with_node (N := ∀ (v : World) (b0 : Nat) (b2 : Nat) (b4 : Nat) (b8 : Nat), wr.grownBy v none → v.heap[b0]? = some (.cells #[.string ⟨#[120]⟩] 9 (0, 0)) → v.heap[b2]? = some (.cells #[.string ⟨#[115, 116, 97, 114, 116, 115]⟩, .int .i64 7, .int .i64 0, .int .i64 0, .string ⟨#[]⟩, .int .i64 0, .slice none 0 0, .slice none 0 0, .slice va x.length vc] 41 (0, 0)) → v.heap[b4]? = some (.cells #[.string ⟨#[101, 110, 100, 115]⟩, .int .i64 7, .int .i64 0, .int .i64 0, .string ⟨#[]⟩, .int .i64 0, .slice none 0 0, .slice none 0 0, .slice ea x.length ec] 41 (0, 0)) → v.heap[b8]? = some (.cells #[.int .i64 ty, .slice aa an ac, .slice ad zs.length ak] 32 (0, 0)) → (_ : World → Nat → Nat → Nat → Nat → Prop) v b0 b2 b4 b8) (fun N0_2_4_8 => ?_) ?_
                rotate_left 1
                refine' with_node (N := ∀ (v : World) (b0 : Nat) (b2 : Nat) (b4 : Nat) (b13 : Nat), wr.grownBy v none → v.heap[b0]? = some (.cells #[.string ⟨#[120]⟩] 9 (0, 0)) → v.heap[b2]? = some (.cells #[.string ⟨#[115, 116, 97, 114, 116, 115]⟩, .int .i64 7, .int .i64 0, .int .i64 0, .string ⟨#[]⟩, .int .i64 0, .slice none 0 0, .slice none 0 0, .slice va x.length vc] 41 (0, 0)) → v.heap[b4]? = some (.cells #[.string ⟨#[101, 110, 100, 115]⟩, .int .i64 7, .int .i64 0, .int .i64 0, .string ⟨#[]⟩, .int .i64 0, .slice none 0 0, .slice none 0 0, .slice ea x.length ec] 41 (0, 0)) → v.heap[b13]? = some (.cells #[.int .i64 0, .slice none 0 0, .slice none 0 0] 32 (0, 0)) → wr.heap.size ≤ b13 → (_ : World → Nat → Nat → Nat → Nat → Prop) v b0 b2 b4 b13) (fun N0_2_4_13 => ?_) ?_
                rotate_left 1
                refine' with_node (N := ∀ (v : World) (b0 : Nat) (b2 : Nat) (b8 : Nat) (b13 : Nat), wr.grownBy v none → v.heap[b0]? = some (.cells #[.string ⟨#[120]⟩] 9 (0, 0)) → v.heap[b2]? = some (.cells #[.string ⟨#[115, 116, 97, 114, 116, 115]⟩, .int .i64 7, .int .i64 0, .int .i64 0, .string ⟨#[]⟩, .int .i64 0, .slice none 0 0, .slice none 0 0, .slice va x.length vc] 41 (0, 0)) → v.heap[b8]? = some (.cells #[.int .i64 ty, .slice aa an ac, .slice ad zs.length ak] 32 (0, 0)) → v.heap[b13]? = some (.cells #[.int .i64 0, .slice none 0 0, .slice none 0 0] 32 (0, 0)) → wr.heap.size ≤ b13 → (_ : World → Nat → Nat → Nat → Nat → Prop) v b0 b2 b8 b13) (fun N0_2_8_13 => ?_) ?_
                rotate_left 1
                refine' with_node (N := ∀ (v : World) (b2 : Nat) (b4 : Nat) (g5 : Nat) (c5 : Nat) (b8 : Nat), wr.grownBy v none → v.heap[b2]? = some (.cells #[.string ⟨#[115, 116, 97, 114, 116, 115]⟩, .int .i64 7, .int .i64 0, .int .i64 0, .string ⟨#[]⟩, .int .i64 0, .slice none 0 0, .slice none 0 0, .slice va x.length vc] 41 (0, 0)) → v.heap[b4]? = some (.cells #[.string ⟨#[101, 110, 100, 115]⟩, .int .i64 7, .int .i64 0, .int .i64 0, .string ⟨#[]⟩, .int .i64 0, .slice none 0 0, .slice none 0 0, .slice ea x.length ec] 41 (0, 0)) → IsAttrs v (.slice (some ⟨g5, 0, none⟩) (1 + 1) c5) [inA ⟨#[115, 116, 97, 114, 116, 115]⟩ ⟨va, x.length, vc⟩, inA ⟨#[101, 110, 100, 115]⟩ ⟨ea, x.length, ec⟩] → v.heap[b8]? = some (.cells #[.int .i64 ty, .slice aa an ac, .slice ad zs.length ak] 32 (0, 0)) → (_ : World → Nat → Nat → Nat → Nat → Nat → Prop) v b2 b4 g5 c5 b8) (fun N2_4_5_8 => ?_) ?_
                rotate_left 1
                refine' with_node (N := ∀ (v : World) (b2 : Nat) (b4 : Nat) (g5 : Nat) (c5 : Nat) (b13 : Nat), wr.grownBy v none → v.heap[b2]? = some (.cells #[.string ⟨#[115, 116, 97, 114, 116, 115]⟩, .int .i64 7, .int .i64 0, .int .i64 0, .string ⟨#[]⟩, .int .i64 0, .slice none 0 0, .slice none 0 0, .slice va x.length vc] 41 (0, 0)) → v.heap[b4]? = some (.cells #[.string ⟨#[101, 110, 100, 115]⟩, .int .i64 7, .int .i64 0, .int .i64 0, .string ⟨#[]⟩, .int .i64 0, .slice none 0 0, .slice none 0 0, .slice ea x.length ec] 41 (0, 0)) → IsAttrs v (.slice (some ⟨g5, 0, none⟩) (1 + 1) c5) [inA ⟨#[115, 116, 97, 114, 116, 115]⟩ ⟨va, x.length, vc⟩, inA ⟨#[101, 110, 100, 115]⟩ ⟨ea, x.length, ec⟩] → v.heap[b13]? = some (.cells #[.int .i64 0, .slice none 0 0, .slice none 0 0] 32 (0, 0)) → wr.heap.size ≤ b13 → (_ : World → Nat → Nat → Nat → Nat → Nat → Prop) v b2 b4 g5 c5 b13) (fun N2_4_5_13 => ?_) ?_
                rotate_left 1
                refine' with_node (N := ∀ (v : World) (b2 : Nat) (b4 : Nat) (b8 : Nat) (b13 : Nat), wr.grownBy v none → v.heap[b2]? = some (.cells #[.string ⟨#[115, 116, 97, 114, 116, 115]⟩, .int .i64 7, .int .i64 0, .int .i64 0, .string ⟨#[]⟩, .int .i64 0, .slice none 0 0, .slice none 0 0, .slice va x.length vc] 41 (0, 0)) → v.heap[b4]? = some (.cells #[.string ⟨#[101, 110, 100, 115]⟩, .int .i64 7, .int .i64 0, .int .i64 0, .string ⟨#[]⟩, .int .i64 0, .slice none 0 0, .slice none 0 0, .slice ea x.length ec] 41 (0, 0)) → v.heap[b8]? = some (.cells #[.int .i64 ty, .slice aa an ac, .slice ad zs.length ak] 32 (0, 0)) → v.heap[b13]? = some (.cells #[.int .i64 0, .slice none 0 0, .slice none 0 0] 32 (0, 0)) → wr.heap.size ≤ b13 → (_ : World → Nat → Nat → Nat → Nat → Prop) v b2 b4 b8 b13) (fun N2_4_8_13 => ?_) ?_
                rotate_left 1
                refine' with_node (N := ∀ (v : World) (b0 : Nat) (b2 : Nat) (b4 : Nat), wr.grownBy v none → v.heap[b0]? = some (.cells #[.string ⟨#[120]⟩] 9 (0, 0)) → v.heap[b2]? = some (.cells #[.string ⟨#[115, 116, 97, 114, 116, 115]⟩, .int .i64 7, .int .i64 0, .int .i64 0, .string ⟨#[]⟩, .int .i64 0, .slice none 0 0, .slice none 0 0, .slice va x.length vc] 41 (0, 0)) → v.heap[b4]? = some (.cells #[.string ⟨#[101, 110, 100, 115]⟩, .int .i64 7, .int .i64 0, .int .i64 0, .string ⟨#[]⟩, .int .i64 0, .slice none 0 0, .slice none 0 0, .slice ea x.length ec] 41 (0, 0)) → (_ : World → Nat → Nat → Nat → Prop) v b0 b2 b4) (fun N0_2_4 => ?_) ?_
                rotate_left 1
                refine' with_node (N := ∀ (v : World) (b0 : Nat) (b2 : Nat) (b8 : Nat), wr.grownBy v none → v.heap[b0]? = some (.cells #[.string ⟨#[120]⟩] 9 (0, 0)) → v.heap[b2]? = some (.cells #[.string ⟨#[115, 116, 97, 114, 116, 115]⟩, .int .i64 7, .int .i64 0, .int .i64 0, .string ⟨#[]⟩, .int .i64 0, .slice none 0 0, .slice none 0 0, .slice va x.length vc] 41 (0, 0)) → v.heap[b8]? = some (.cells #[.int .i64 ty, .slice aa an ac, .slice ad zs.length ak] 32 (0, 0)) → (_ : World → Nat → Nat → Nat → Prop) v b0 b2 b8) (fun N0_2_8 => ?_) ?_
                rotate_left 1
                refine' with_node (N := ∀ (v : World) (b0 : Nat) (b2 : Nat) (b13 : Nat), wr.grownBy v none → v.heap[b0]? = some (.cells #[.string ⟨#[120]⟩] 9 (0, 0)) → v.heap[b2]? = some (.cells #[.string ⟨#[115, 116, 97, 114, 116, 115]⟩, .int .i64 7, .int .i64 0, .int .i64 0, .string ⟨#[]⟩, .int .i64 0, .slice none 0 0, .slice none 0 0, .slice va x.length vc] 41 (0, 0)) → v.heap[b13]? = some (.cells #[.int .i64 0, .slice none 0 0, .slice none 0 0] 32 (0, 0)) → wr.heap.size ≤ b13 → (_ : World → Nat → Nat → Nat → Prop) v b0 b2 b13) (fun N0_2_13 => ?_) ?_
                rotate_left 1
                refine' with_node (N := ∀ (v : World) (b0 : Nat) (b8 : Nat) (b13 : Nat), wr.grownBy v none → v.heap[b0]? = some (.cells #[.string ⟨#[120]⟩] 9 (0, 0)) → v.heap[b8]? = some (.cells #[.int .i64 ty, .slice aa an ac, .slice ad zs.length ak] 32 (0, 0)) → v.heap[b13]? = some (.cells #[.int .i64 0, .slice none 0 0, .slice none 0 0] 32 (0, 0)) → wr.heap.size ≤ b13 → (_ : World → Nat → Nat → Nat → Prop) v b0 b8 b13) (fun N0_8_13 => ?_) ?_
                rotate_left 1
                refine' with_node (N := ∀ (v : World) (b2 : Nat) (b4 : Nat) (g5 : Nat) (c5 : Nat), wr.grownBy v none → v.heap[b2]? = some (.cells #[.string ⟨#[115, 116, 97, 114, 116, 115]⟩, .int .i64 7, .int .i64 0, .int .i64 0, .string ⟨#[]⟩, .int .i64 0, .slice none 0 0, .slice none 0 0, .slice va x.length vc] 41 (0, 0)) → v.heap[b4]? = some (.cells #[.string ⟨#[101, 110, 100, 115]⟩, .int .i64 7, .int .i64 0, .int .i64 0, .string ⟨#[]⟩, .int .i64 0, .slice none 0 0, .slice none 0 0, .slice ea x.length ec] 41 (0, 0)) → IsAttrs v (.slice (some ⟨g5, 0, none⟩) (1 + 1) c5) [inA ⟨#[115, 116, 97, 114, 116, 115]⟩ ⟨va, x.length, vc⟩, inA ⟨#[101, 110, 100, 115]⟩ ⟨ea, x.length, ec⟩] → (_ : World → Nat → Nat → Nat → Nat → Prop) v b2 b4 g5 c5) (fun N2_4_5 => ?_) ?_
                rotate_left 1
                refine' with_node (N := ∀ (v : World) (b2 : Nat) (b4 : Nat) (b8 : Nat), wr.grownBy v none → v.heap[b2]? = some (.cells #[.string ⟨#[115, 116, 97, 114, 116, 115]⟩, .int .i64 7, .int .i64 0, .int .i64 0, .string ⟨#[]⟩, .int .i64 0, .slice none 0 0, .slice none 0 0, .slice va x.length vc] 41 (0, 0)) → v.heap[b4]? = some (.cells #[.string ⟨#[101, 110, 100, 115]⟩, .int .i64 7, .int .i64 0, .int .i64 0, .string ⟨#[]⟩, .int .i64 0, .slice none 0 0, .slice none 0 0, .slice ea x.length ec] 41 (0, 0)) → v.heap[b8]? = some (.cells #[.int .i64 ty, .slice aa an ac, .slice ad zs.length ak] 32 (0, 0)) → (_ : World → Nat → Nat → Nat → Prop) v b2 b4 b8) (fun N2_4_8 => ?_) ?_
                rotate_left 1
                refine' with_node (N := ∀ (v : World) (b2 : Nat) (b4 : Nat) (b13 : Nat), wr.grownBy v none → v.heap[b2]? = some (.cells #[.string ⟨#[115, 116, 97, 114, 116, 115]⟩, .int .i64 7, .int .i64 0, .int .i64 0, .string ⟨#[]⟩, .int .i64 0, .slice none 0 0, .slice none 0 0, .slice va x.length vc] 41 (0, 0)) → v.heap[b4]? = some (.cells #[.string ⟨#[101, 110, 100, 115]⟩, .int .i64 7, .int .i64 0, .int .i64 0, .string ⟨#[]⟩, .int .i64 0, .slice none 0 0, .slice none 0 0, .slice ea x.length ec] 41 (0, 0)) → v.heap[b13]? = some (.cells #[.int .i64 0, .slice none 0 0, .slice none 0 0] 32 (0, 0)) → wr.heap.size ≤ b13 → (_ : World → Nat → Nat → Nat → Prop) v b2 b4 b13) (fun N2_4_13 => ?_) ?_
                rotate_left 1
                refine' with_node (N := ∀ (v : World) (b2 : Nat) (b8 : Nat) (b13 : Nat), wr.grownBy v none → v.heap[b2]? = some (.cells #[.string ⟨#[115, 116, 97, 114, 116, 115]⟩, .int .i64 7, .int .i64 0, .int .i64 0, .string ⟨#[]⟩, .int .i64 0, .slice none 0 0, .slice none 0 0, .slice va x.length vc] 41 (0, 0)) → v.heap[b8]? = some (.cells #[.int .i64 ty, .slice aa an ac, .slice ad zs.length ak] 32 (0, 0)) → v.heap[b13]? = some (.cells #[.int .i64 0, .slice none 0 0, .slice none 0 0] 32 (0, 0)) → wr.heap.size ≤ b13 → (_ : World → Nat → Nat → Nat → Prop) v b2 b8 b13) (fun N2_8_13 => ?_) ?_
                rotate_left 1
                refine' with_node (N := ∀ (v : World) (b0 : Nat) (b2 : Nat), wr.grownBy v none → v.heap[b0]? = some (.cells #[.string ⟨#[120]⟩] 9 (0, 0)) → v.heap[b2]? = some (.cells #[.string ⟨#[115, 116, 97, 114, 116, 115]⟩, .int .i64 7, .int .i64 0, .int .i64 0, .string ⟨#[]⟩, .int .i64 0, .slice none 0 0, .slice none 0 0, .slice va x.length vc] 41 (0, 0)) → (_ : World → Nat → Nat → Prop) v b0 b2) (fun N0_2 => ?_) ?_
                rotate_left 1
                refine' with_node (N := ∀ (v : World) (b0 : Nat) (b8 : Nat), wr.grownBy v none → v.heap[b0]? = some (.cells #[.string ⟨#[120]⟩] 9 (0, 0)) → v.heap[b8]? = some (.cells #[.int .i64 ty, .slice aa an ac, .slice ad zs.length ak] 32 (0, 0)) → (_ : World → Nat → Nat → Prop) v b0 b8) (fun N0_8 => ?_) ?_
                rotate_left 1
                refine' with_node (N := ∀ (v : World) (b0 : Nat) (b13 : Nat), wr.grownBy v none → v.heap[b0]? = some (.cells #[.string ⟨#[120]⟩] 9 (0, 0)) → v.heap[b13]? = some (.cells #[.int .i64 0, .slice none 0 0, .slice none 0 0] 32 (0, 0)) → wr.heap.size ≤ b13 → (_ : World → Nat → Nat → Prop) v b0 b13) (fun N0_13 => ?_) ?_
                rotate_left 1
                refine' with_node (N := ∀ (v : World) (b2 : Nat) (b4 : Nat), wr.grownBy v none → v.heap[b2]? = some (.cells #[.string ⟨#[115, 116, 97, 114, 116, 115]⟩, .int .i64 7, .int .i64 0, .int .i64 0, .string ⟨#[]⟩, .int .i64 0, .slice none 0 0, .slice none 0 0, .slice va x.length vc] 41 (0, 0)) → v.heap[b4]? = some (.cells #[.string ⟨#[101, 110, 100, 115]⟩, .int .i64 7, .int .i64 0, .int .i64 0, .string ⟨#[]⟩, .int .i64 0, .slice none 0 0, .slice none 0 0, .slice ea x.length ec] 41 (0, 0)) → (_ : World → Nat → Nat → Prop) v b2 b4) (fun N2_4 => ?_) ?_
                rotate_left 1
                refine' with_node (N := ∀ (v : World) (b2 : Nat) (b8 : Nat), wr.grownBy v none → v.heap[b2]? = some (.cells #[.string ⟨#[115, 116, 97, 114, 116, 115]⟩, .int .i64 7, .int .i64 0, .int .i64 0, .string ⟨#[]⟩, .int .i64 0, .slice none 0 0, .slice none 0 0, .slice va x.length vc] 41 (0, 0)) → v.heap[b8]? = some (.cells #[.int .i64 ty, .slice aa an ac, .slice ad zs.length ak] 32 (0, 0)) → (_ : World → Nat → Nat → Prop) v b2 b8) (fun N2_8 => ?_) ?_
                rotate_left 1
                refine' with_node (N := ∀ (v : World) (b2 : Nat) (b13 : Nat), wr.grownBy v none → v.heap[b2]? = some (.cells #[.string ⟨#[115, 116, 97, 114, 116, 115]⟩, .int .i64 7, .int .i64 0, .int .i64 0, .string ⟨#[]⟩, .int .i64 0, .slice none 0 0, .slice none 0 0, .slice va x.length vc] 41 (0, 0)) → v.heap[b13]? = some (.cells #[.int .i64 0, .slice none 0 0, .slice none 0 0] 32 (0, 0)) → wr.heap.size ≤ b13 → (_ : World → Nat → Nat → Prop) v b2 b13) (fun N2_13 => ?_) ?_
                rotate_left 1
                refine' with_node (N := ∀ (v : World) (b8 : Nat) (b13 : Nat), wr.grownBy v none → v.heap[b8]? = some (.cells #[.int .i64 ty, .slice aa an ac, .slice ad zs.length ak] 32 (0, 0)) → v.heap[b13]? = some (.cells #[.int .i64 0, .slice none 0 0, .slice none 0 0] 32 (0, 0)) → wr.heap.size ≤ b13 → (_ : World → Nat → Nat → Prop) v b8 b13) (fun N8_13 => ?_) ?_
                rotate_left 1
                refine' with_node (N := ∀ (v : World) (b0 : Nat), wr.grownBy v none → v.heap[b0]? = some (.cells #[.string ⟨#[120]⟩] 9 (0, 0)) → (_ : World → Nat → Prop) v b0) (fun N0 => ?_) ?_
                rotate_left 1
                refine' with_node (N := ∀ (v : World) (b2 : Nat), wr.grownBy v none → v.heap[b2]? = some (.cells #[.string ⟨#[115, 116, 97, 114, 116, 115]⟩, .int .i64 7, .int .i64 0, .int .i64 0, .string ⟨#[]⟩, .int .i64 0, .slice none 0 0, .slice none 0 0, .slice va x.length vc] 41 (0, 0)) → (_ : World → Nat → Prop) v b2) (fun N2 => ?_) ?_
                rotate_left 1
                refine' with_node (N := ∀ (v : World) (b8 : Nat), wr.grownBy v none → v.heap[b8]? = some (.cells #[.int .i64 ty, .slice aa an ac, .slice ad zs.length ak] 32 (0, 0)) → (_ : World → Nat → Prop) v b8) (fun N8 => ?_) ?_
                rotate_left 1
                refine' with_node (N := ∀ (v : World) (b13 : Nat), wr.grownBy v none → v.heap[b13]? = some (.cells #[.int .i64 0, .slice none 0 0, .slice none 0 0] 32 (0, 0)) → wr.heap.size ≤ b13 → (_ : World → Nat → Prop) v b13) (fun N13 => ?_) ?_
                rotate_left 1
                · have g : wr.grownBy wr.drew none := grown_drew (grown_refl _)
                  generalize hv : wr.drew = v at g ⊢
                  clear hv
                  refine wpAnyH_take (i := 1) (v := ?_) rfl (by kernel_rfl) (by kernel_rfl) (by kernel_rfl) (fun _ _ _ h => h) (Or.inl ⟨by kernel_rfl, ?_⟩) (by assumption) ?_
                  rotate_left 1
                  · (intro wS hSw; go_simp; (try with_reducible rfl))
                  try simp only [Act.put]
                  refine wpAnyH_take (i := 3) (v := ?_) rfl (by kernel_rfl) (by kernel_rfl) (by kernel_rfl) (fun _ _ _ h => h) (Or.inl ⟨by kernel_rfl, ?_⟩) (by assumption) ?_
                  rotate_left 1
                  · (intro wS hSw; go_simp; (try with_reducible rfl))
                  try simp only [Act.put]
                  refine wpAnyH_take (i := 7) (v := ?_) rfl (by kernel_rfl) (by kernel_rfl) (by kernel_rfl) (fun _ _ _ h => h) (Or.inl ⟨by kernel_rfl, ?_⟩) (by assumption) ?_
                  rotate_left 1
                  · (intro wS hSw; have c0 := cell_still y0 hSw; have c1 := cell_still y1 hSw; have c2 := cell_still y2 hSw; go_simp; (try with_reducible rfl))
                  try simp only [Act.put]
                  refine wpAnyH_ready (rs := [0, 2, 8, 13]) (by kernel_rfl) (by simp) ?_
                  refine AllReadyH.cons rfl (fun K hK => ?_) ?_
                  · go_simp
                    have h0 := heap_alloc_new v (.cells #[.string ⟨#[120]⟩] 9)
                    have gs := grown_new v (.cells #[.string ⟨#[120]⟩] 9)
                    generalize hvn : v.alloc (.cells #[.string ⟨#[120]⟩] 9) = u at h0 gs ⊢
                    clear hvn
                    generalize v.heap.size = b0 at h0 ⊢
                    have gn := grown_trans g gs
                    refine hK.out _ _ gn (fun hHeld => ?_)
                    clear hK K
                    try simp only [Act.put]
                    clear g gs hHeld
                    exact N0 u b0 gn h0
                  refine AllReadyH.cons rfl (fun K hK => ?_) ?_
                  · go_simp
                    refine (M1.out v).mono ?_
                    rintro e u ⟨rfl, hvn⟩
                    have h2 := heap_alloc_new v (.cells #[.string ⟨#[115, 116, 97, 114, 116, 115]⟩, .int .i64 7, .int .i64 0, .int .i64 0, .string ⟨#[]⟩, .int .i64 0, .slice none 0 0, .slice none 0 0, .slice va x.length vc] 41)
                    rw [← hvn] at h2
                    have gs : v.grownBy u none := by rw [hvn]; exact grown_new _ _
                    clear hvn
                    generalize v.heap.size = b2 at h2 ⊢
                    have gn := grown_trans g gs
                    refine hK.out _ _ gn (fun hHeld => ?_)
                    clear hK K
                    try simp only [Act.put]
                    clear g gs hHeld
                    exact N2 u b2 gn h2
                  refine AllReadyH.cons rfl (fun K hK => ?_) ?_
                  · go_simp
                    have h8 := heap_alloc_new v (.cells #[.int .i64 ty, .slice aa an ac, .slice ad zs.length ak] 32)
                    have gs := grown_new v (.cells #[.int .i64 ty, .slice aa an ac, .slice ad zs.length ak] 32)
                    generalize hvn : v.alloc (.cells #[.int .i64 ty, .slice aa an ac, .slice ad zs.length ak] 32) = u at h8 gs ⊢
                    clear hvn
                    generalize v.heap.size = b8 at h8 ⊢
                    have gn := grown_trans g gs
                    refine hK.out _ _ gn (fun hHeld => ?_)
                    clear hK K
                    try simp only [Act.put]
                    clear g gs hHeld
                    exact N8 u b8 gn h8
                  refine AllReadyH.cons rfl (fun K hK => ?_) ?_
                  · have hb13 := g.size
                    go_simp
                    have h13 := heap_alloc_new v (.cells #[.int .i64 0, .slice none 0 0, .slice none 0 0] 32)
                    have gs := grown_new v (.cells #[.int .i64 0, .slice none 0 0, .slice none 0 0] 32)
                    generalize hvn : v.alloc (.cells #[.int .i64 0, .slice none 0 0, .slice none 0 0] 32) = u at h13 gs ⊢
                    clear hvn
                    generalize v.heap.size = b13 at h13 hb13 ⊢
                    have gn := grown_trans g gs
                    refine hK.out _ _ gn (fun hHeld => ?_)
                    clear hK K
                    try simp only [Act.put]
                    clear g gs hHeld
                    exact N13 u b13 gn h13 hb13
                  exact AllReadyH.nil
                · intro v b13 g h13 hb13
                  refine wpAnyH_ready (rs := [0, 2, 8]) (by kernel_rfl) (by simp) ?_
                  refine AllReadyH.cons rfl (fun K hK => ?_) ?_
                  · go_simp
                    have h0 := heap_alloc_new v (.cells #[.string ⟨#[120]⟩] 9)
                    have gs := grown_new v (.cells #[.string ⟨#[120]⟩] 9)
                    generalize hvn : v.alloc (.cells #[.string ⟨#[120]⟩] 9) = u at h0 gs ⊢
                    clear hvn
                    generalize v.heap.size = b0 at h0 ⊢
                    have gn := grown_trans g gs
                    refine hK.out _ _ gn (fun hHeld => ?_)
                    clear hK K
                    try simp only [Act.put]
                    have h13 := box_kept h13 gs
                    clear g gs hHeld
                    exact N0_13 u b0 b13 gn h0 h13 hb13
                  refine AllReadyH.cons rfl (fun K hK => ?_) ?_
                  · go_simp
                    refine (M1.out v).mono ?_
                    rintro e u ⟨rfl, hvn⟩
                    have h2 := heap_alloc_new v (.cells #[.string ⟨#[115, 116, 97, 114, 116, 115]⟩, .int .i64 7, .int .i64 0, .int .i64 0, .string ⟨#[]⟩, .int .i64 0, .slice none 0 0, .slice none 0 0, .slice va x.length vc] 41)
                    rw [← hvn] at h2
                    have gs : v.grownBy u none := by rw [hvn]; exact grown_new _ _
                    clear hvn
                    generalize v.heap.size = b2 at h2 ⊢
                    have gn := grown_trans g gs
                    refine hK.out _ _ gn (fun hHeld => ?_)
                    clear hK K
                    try simp only [Act.put]
                    have h13 := box_kept h13 gs
                    clear g gs hHeld
                    exact N2_13 u b2 b13 gn h2 h13 hb13
                  refine AllReadyH.cons rfl (fun K hK => ?_) ?_
                  · go_simp
                    have h8 := heap_alloc_new v (.cells #[.int .i64 ty, .slice aa an ac, .slice ad zs.length ak] 32)
                    have gs := grown_new v (.cells #[.int .i64 ty, .slice aa an ac, .slice ad zs.length ak] 32)
                    generalize hvn : v.alloc (.cells #[.int .i64 ty, .slice aa an ac, .slice ad zs.length ak] 32) = u at h8 gs ⊢
                    clear hvn
                    generalize v.heap.size = b8 at h8 ⊢
                    have gn := grown_trans g gs
                    refine hK.out _ _ gn (fun hHeld => ?_)
                    clear hK K
                    try simp only [Act.put]
                    have h13 := box_kept h13 gs
                    clear g gs hHeld
                    exact N8_13 u b8 b13 gn h8 h13 hb13
                  exact AllReadyH.nil
                · intro v b8 g h8
                  refine wpAnyH_ready (rs := [0, 2, 13]) (by kernel_rfl) (by simp) ?_
                  refine AllReadyH.cons rfl (fun K hK => ?_) ?_
                  · go_simp
                    have h0 := heap_alloc_new v (.cells #[.string ⟨#[120]⟩] 9)
                    have gs := grown_new v (.cells #[.string ⟨#[120]⟩] 9)
                    generalize hvn : v.alloc (.cells #[.string ⟨#[120]⟩] 9) = u at h0 gs ⊢
                    clear hvn
                    generalize v.heap.size = b0 at h0 ⊢
                    have gn := grown_trans g gs
                    refine hK.out _ _ gn (fun hHeld => ?_)
                    clear hK K
                    try simp only [Act.put]
                    have h8 := box_kept h8 gs
                    clear g gs hHeld
                    exact N0_8 u b0 b8 gn h0 h8
                  refine AllReadyH.cons rfl (fun K hK => ?_) ?_
                  · go_simp
                    refine (M1.out v).mono ?_
                    rintro e u ⟨rfl, hvn⟩
                    have h2 := heap_alloc_new v (.cells #[.string ⟨#[115, 116, 97, 114, 116, 115]⟩, .int .i64 7, .int .i64 0, .int .i64 0, .string ⟨#[]⟩, .int .i64 0, .slice none 0 0, .slice none 0 0, .slice va x.length vc] 41)
                    rw [← hvn] at h2
                    have gs : v.grownBy u none := by rw [hvn]; exact grown_new _ _
                    clear hvn
                    generalize v.heap.size = b2 at h2 ⊢
                    have gn := grown_trans g gs
                    refine hK.out _ _ gn (fun hHeld => ?_)
                    clear hK K
                    try simp only [Act.put]
                    have h8 := box_kept h8 gs
                    clear g gs hHeld
                    exact N2_8 u b2 b8 gn h2 h8
                  refine AllReadyH.cons rfl (fun K hK => ?_) ?_
                  · have hb13 := g.size
                    go_simp
                    have h13 := heap_alloc_new v (.cells #[.int .i64 0, .slice none 0 0, .slice none 0 0] 32)
                    have gs := grown_new v (.cells #[.int .i64 0, .slice none 0 0, .slice none 0 0] 32)
                    generalize hvn : v.alloc (.cells #[.int .i64 0, .slice none 0 0, .slice none 0 0] 32) = u at h13 gs ⊢
                    clear hvn
                    generalize v.heap.size = b13 at h13 hb13 ⊢
                    have gn := grown_trans g gs
                    refine hK.out _ _ gn (fun hHeld => ?_)
                    clear hK K
                    try simp only [Act.put]
                    have h8 := box_kept h8 gs
                    clear g gs hHeld
                    refine cast ?_ (N8_13 u b8 b13 gn h8 h13 hb13)
                    kernel_rfl
                  exact AllReadyH.nil
                · intro v b2 g h2
                  refine wpAnyH_ready (rs := [0, 4, 8, 13]) (by kernel_rfl) (by simp) ?_
                  refine AllReadyH.cons rfl (fun K hK => ?_) ?_
                  · go_simp
                    have h0 := heap_alloc_new v (.cells #[.string ⟨#[120]⟩] 9)
                    have gs := grown_new v (.cells #[.string ⟨#[120]⟩] 9)
                    generalize hvn : v.alloc (.cells #[.string ⟨#[120]⟩] 9) = u at h0 gs ⊢
                    clear hvn
                    generalize v.heap.size = b0 at h0 ⊢
                    have gn := grown_trans g gs
                    refine hK.out _ _ gn (fun hHeld => ?_)
                    clear hK K
                    try simp only [Act.put]
                    have h2 := box_kept h2 gs
                    clear g gs hHeld
                    exact N0_2 u b0 b2 gn h0 h2
                  refine AllReadyH.cons rfl (fun K hK => ?_) ?_
                  · go_simp
                    refine (M2.out v).mono ?_
                    rintro e u ⟨rfl, hvn⟩
                    have h4 := heap_alloc_new v (.cells #[.string ⟨#[101, 110, 100, 115]⟩, .int .i64 7, .int .i64 0, .int .i64 0, .string ⟨#[]⟩, .int .i64 0, .slice none 0 0, .slice none 0 0, .slice ea x.length ec] 41)
                    rw [← hvn] at h4
                    have gs : v.grownBy u none := by rw [hvn]; exact grown_new _ _
                    clear hvn
                    generalize v.heap.size = b4 at h4 ⊢
                    have gn := grown_trans g gs
                    refine hK.out _ _ gn (fun hHeld => ?_)
                    clear hK K
                    try simp only [Act.put]
                    have h2 := box_kept h2 gs
                    clear g gs hHeld
                    exact N2_4 u b2 b4 gn h2 h4
                  refine AllReadyH.cons rfl (fun K hK => ?_) ?_
                  · go_simp
                    have h8 := heap_alloc_new v (.cells #[.int .i64 ty, .slice aa an ac, .slice ad zs.length ak] 32)
                    have gs := grown_new v (.cells #[.int .i64 ty, .slice aa an ac, .slice ad zs.length ak] 32)
                    generalize hvn : v.alloc (.cells #[.int .i64 ty, .slice aa an ac, .slice ad zs.length ak] 32) = u at h8 gs ⊢
                    clear hvn
                    generalize v.heap.size = b8 at h8 ⊢
                    have gn := grown_trans g gs
                    refine hK.out _ _ gn (fun hHeld => ?_)
                    clear hK K
                    try simp only [Act.put]
                    have h2 := box_kept h2 gs
                    clear g gs hHeld
                    refine cast ?_ (N2_8 u b2 b8 gn h2 h8)
                    kernel_rfl
                  refine AllReadyH.cons rfl (fun K hK => ?_) ?_
                  · have hb13 := g.size
                    go_simp
                    have h13 := heap_alloc_new v (.cells #[.int .i64 0, .slice none 0 0, .slice none 0 0] 32)
                    have gs := grown_new v (.cells #[.int .i64 0, .slice none 0 0, .slice none 0 0] 32)
                    generalize hvn : v.alloc (.cells #[.int .i64 0, .slice none 0 0, .slice none 0 0] 32) = u at h13 gs ⊢
                    clear hvn
                    generalize v.heap.size = b13 at h13 hb13 ⊢
                    have gn := grown_trans g gs
                    refine hK.out _ _ gn (fun hHeld => ?_)
                    clear hK K
                    try simp only [Act.put]
                    have h2 := box_kept h2 gs
                    clear g gs hHeld
                    refine cast ?_ (N2_13 u b2 b13 gn h2 h13 hb13)
                    kernel_rfl
                  exact AllReadyH.nil
                · intro v b0 g h0
                  refine wpAnyH_ready (rs := [2, 8, 13]) (by kernel_rfl) (by simp) ?_
                  refine AllReadyH.cons rfl (fun K hK => ?_) ?_
                  · go_simp
                    refine (M1.out v).mono ?_
                    rintro e u ⟨rfl, hvn⟩
                    have h2 := heap_alloc_new v (.cells #[.string ⟨#[115, 116, 97, 114, 116, 115]⟩, .int .i64 7, .int .i64 0, .int .i64 0, .string ⟨#[]⟩, .int .i64 0, .slice none 0 0, .slice none 0 0, .slice va x.length vc] 41)
                    rw [← hvn] at h2
                    have gs : v.grownBy u none := by rw [hvn]; exact grown_new _ _
                    clear hvn
                    generalize v.heap.size = b2 at h2 ⊢
                    have gn := grown_trans g gs
                    refine hK.out _ _ gn (fun hHeld => ?_)
                    clear hK K
                    try simp only [Act.put]
                    have h0 := box_kept h0 gs
                    clear g gs hHeld
                    refine cast ?_ (N0_2 u b0 b2 gn h0 h2)
                    kernel_rfl
                  refine AllReadyH.cons rfl (fun K hK => ?_) ?_
                  · go_simp
                    have h8 := heap_alloc_new v (.cells #[.int .i64 ty, .slice aa an ac, .slice ad zs.length ak] 32)
                    have gs := grown_new v (.cells #[.int .i64 ty, .slice aa an ac, .slice ad zs.length ak] 32)
                    generalize hvn : v.alloc (.cells #[.int .i64 ty, .slice aa an ac, .slice ad zs.length ak] 32) = u at h8 gs ⊢
                    clear hvn
                    generalize v.heap.size = b8 at h8 ⊢
                    have gn := grown_trans g gs
                    refine hK.out _ _ gn (fun hHeld => ?_)
                    clear hK K
                    try simp only [Act.put]
                    have h0 := box_kept h0 gs
                    clear g gs hHeld
                    refine cast ?_ (N0_8 u b0 b8 gn h0 h8)
                    kernel_rfl
                  refine AllReadyH.cons rfl (fun K hK => ?_) ?_
                  · have hb13 := g.size
                    go_simp
                    have h13 := heap_alloc_new v (.cells #[.int .i64 0, .slice none 0 0, .slice none 0 0] 32)
                    have gs := grown_new v (.cells #[.int .i64 0, .slice none 0 0, .slice none 0 0] 32)
                    generalize hvn : v.alloc (.cells #[.int .i64 0, .slice none 0 0, .slice none 0 0] 32) = u at h13 gs ⊢
                    clear hvn
                    generalize v.heap.size = b13 at h13 hb13 ⊢
                    have gn := grown_trans g gs
                    refine hK.out _ _ gn (fun hHeld => ?_)
                    clear hK K
                    try simp only [Act.put]
                    have h0 := box_kept h0 gs
                    clear g gs hHeld
                    refine cast ?_ (N0_13 u b0 b13 gn h0 h13 hb13)
                    kernel_rfl
                  exact AllReadyH.nil
                · intro v b8 b13 g h8 h13 hb13
                  refine wpAnyH_ready (rs := [0, 2]) (by kernel_rfl) (by simp) ?_
                  refine AllReadyH.cons rfl (fun K hK => ?_) ?_
                  · go_simp
                    have h0 := heap_alloc_new v (.cells #[.string ⟨#[120]⟩] 9)
                    have gs := grown_new v (.cells #[.string ⟨#[120]⟩] 9)
                    generalize hvn : v.alloc (.cells #[.string ⟨#[120]⟩] 9) = u at h0 gs ⊢
                    clear hvn
                    generalize v.heap.size = b0 at h0 ⊢
                    have gn := grown_trans g gs
                    refine hK.out _ _ gn (fun hHeld => ?_)
                    clear hK K
                    try simp only [Act.put]
                    have h8 := box_kept h8 gs
                    have h13 := box_kept h13 gs
                    clear g gs hHeld
                    exact N0_8_13 u b0 b8 b13 gn h0 h8 h13 hb13
                  refine AllReadyH.cons rfl (fun K hK => ?_) ?_
                  · go_simp
                    refine (M1.out v).mono ?_
                    rintro e u ⟨rfl, hvn⟩
                    have h2 := heap_alloc_new v (.cells #[.string ⟨#[115, 116, 97, 114, 116, 115]⟩, .int .i64 7, .int .i64 0, .int .i64 0, .string ⟨#[]⟩, .int .i64 0, .slice none 0 0, .slice none 0 0, .slice va x.length vc] 41)
                    rw [← hvn] at h2
                    have gs : v.grownBy u none := by rw [hvn]; exact grown_new _ _
                    clear hvn
                    generalize v.heap.size = b2 at h2 ⊢
                    have gn := grown_trans g gs
                    refine hK.out _ _ gn (fun hHeld => ?_)
                    clear hK K
                    try simp only [Act.put]
                    have h8 := box_kept h8 gs
                    have h13 := box_kept h13 gs
                    clear g gs hHeld
                    exact N2_8_13 u b2 b8 b13 gn h2 h8 h13 hb13
                  exact AllReadyH.nil
                · intro v b2 b13 g h2 h13 hb13
                  refine wpAnyH_ready (rs := [0, 4, 8]) (by kernel_rfl) (by simp) ?_
                  refine AllReadyH.cons rfl (fun K hK => ?_) ?_
                  · go_simp
                    have h0 := heap_alloc_new v (.cells #[.string ⟨#[120]⟩] 9)
                    have gs := grown_new v (.cells #[.string ⟨#[120]⟩] 9)
                    generalize hvn : v.alloc (.cells #[.string ⟨#[120]⟩] 9) = u at h0 gs ⊢
                    clear hvn
                    generalize v.heap.size = b0 at h0 ⊢
                    have gn := grown_trans g gs
                    refine hK.out _ _ gn (fun hHeld => ?_)
                    clear hK K
                    try simp only [Act.put]
                    have h2 := box_kept h2 gs
                    have h13 := box_kept h13 gs
                    clear g gs hHeld
                    exact N0_2_13 u b0 b2 b13 gn h0 h2 h13 hb13
                  refine AllReadyH.cons rfl (fun K hK => ?_) ?_
                  · go_simp
                    refine (M2.out v).mono ?_
                    rintro e u ⟨rfl, hvn⟩
                    have h4 := heap_alloc_new v (.cells #[.string ⟨#[101, 110, 100, 115]⟩, .int .i64 7, .int .i64 0, .int .i64 0, .string ⟨#[]⟩, .int .i64 0, .slice none 0 0, .slice none 0 0, .slice ea x.length ec] 41)
                    rw [← hvn] at h4
                    have gs : v.grownBy u none := by rw [hvn]; exact grown_new _ _
                    clear hvn
                    generalize v.heap.size = b4 at h4 ⊢
                    have gn := grown_trans g gs
                    refine hK.out _ _ gn (fun hHeld => ?_)
                    clear hK K
                    try simp only [Act.put]
                    have h2 := box_kept h2 gs
                    have h13 := box_kept h13 gs
                    clear g gs hHeld
                    exact N2_4_13 u b2 b4 b13 gn h2 h4 h13 hb13
                  refine AllReadyH.cons rfl (fun K hK => ?_) ?_
                  · go_simp
                    have h8 := heap_alloc_new v (.cells #[.int .i64 ty, .slice aa an ac, .slice ad zs.length ak] 32)
                    have gs := grown_new v (.cells #[.int .i64 ty, .slice aa an ac, .slice ad zs.length ak] 32)
                    generalize hvn : v.alloc (.cells #[.int .i64 ty, .slice aa an ac, .slice ad zs.length ak] 32) = u at h8 gs ⊢
                    clear hvn
                    generalize v.heap.size = b8 at h8 ⊢
                    have gn := grown_trans g gs
                    refine hK.out _ _ gn (fun hHeld => ?_)
                    clear hK K
                    try simp only [Act.put]
                    have h2 := box_kept h2 gs
                    have h13 := box_kept h13 gs
                    clear g gs hHeld
                    refine cast ?_ (N2_8_13 u b2 b8 b13 gn h2 h8 h13 hb13)
                    kernel_rfl
                  exact AllReadyH.nil
                · intro v b2 b8 g h2 h8
                  refine wpAnyH_ready (rs := [0, 4, 13]) (by kernel_rfl) (by simp) ?_
                  refine AllReadyH.cons rfl (fun K hK => ?_) ?_
                  · go_simp
                    have h0 := heap_alloc_new v (.cells #[.string ⟨#[120]⟩] 9)
                    have gs := grown_new v (.cells #[.string ⟨#[120]⟩] 9)
                    generalize hvn : v.alloc (.cells #[.string ⟨#[120]⟩] 9) = u at h0 gs ⊢
                    clear hvn
                    generalize v.heap.size = b0 at h0 ⊢
                    have gn := grown_trans g gs
                    refine hK.out _ _ gn (fun hHeld => ?_)
                    clear hK K
                    try simp only [Act.put]
                    have h2 := box_kept h2 gs
                    have h8 := box_kept h8 gs
                    clear g gs hHeld
                    exact N0_2_8 u b0 b2 b8 gn h0 h2 h8
                  refine AllReadyH.cons rfl (fun K hK => ?_) ?_
                  · go_simp
                    refine (M2.out v).mono ?_
                    rintro e u ⟨rfl, hvn⟩
                    have h4 := heap_alloc_new v (.cells #[.string ⟨#[101, 110, 100, 115]⟩, .int .i64 7, .int .i64 0, .int .i64 0, .string ⟨#[]⟩, .int .i64 0, .slice none 0 0, .slice none 0 0, .slice ea x.length ec] 41)
                    rw [← hvn] at h4
                    have gs : v.grownBy u none := by rw [hvn]; exact grown_new _ _
                    clear hvn
                    generalize v.heap.size = b4 at h4 ⊢
                    have gn := grown_trans g gs
                    refine hK.out _ _ gn (fun hHeld => ?_)
                    clear hK K
                    try simp only [Act.put]
                    have h2 := box_kept h2 gs
                    have h8 := box_kept h8 gs
                    clear g gs hHeld
                    exact N2_4_8 u b2 b4 b8 gn h2 h4 h8
                  refine AllReadyH.cons rfl (fun K hK => ?_) ?_
                  · have hb13 := g.size
                    go_simp
                    have h13 := heap_alloc_new v (.cells #[.int .i64 0, .slice none 0 0, .slice none 0 0] 32)
                    have gs := grown_new v (.cells #[.int .i64 0, .slice none 0 0, .slice none 0 0] 32)
                    generalize hvn : v.alloc (.cells #[.int .i64 0, .slice none 0 0, .slice none 0 0] 32) = u at h13 gs ⊢
                    clear hvn
                    generalize v.heap.size = b13 at h13 hb13 ⊢
                    have gn := grown_trans g gs
                    refine hK.out _ _ gn (fun hHeld => ?_)
                    clear hK K
                    try simp only [Act.put]
                    have h2 := box_kept h2 gs
                    have h8 := box_kept h8 gs
                    clear g gs hHeld
                    refine cast ?_ (N2_8_13 u b2 b8 b13 gn h2 h8 h13 hb13)
                    kernel_rfl
                  exact AllReadyH.nil
                · intro v b2 b4 g h2 h4
                  refine wpAnyH_ready (rs := [0, 5, 8, 13]) (by kernel_rfl) (by simp) ?_
                  refine AllReadyH.cons rfl (fun K hK => ?_) ?_
                  · go_simp
                    have h0 := heap_alloc_new v (.cells #[.string ⟨#[120]⟩] 9)
                    have gs := grown_new v (.cells #[.string ⟨#[120]⟩] 9)
                    generalize hvn : v.alloc (.cells #[.string ⟨#[120]⟩] 9) = u at h0 gs ⊢
                    clear hvn
                    generalize v.heap.size = b0 at h0 ⊢
                    have gn := grown_trans g gs
                    refine hK.out _ _ gn (fun hHeld => ?_)
                    clear hK K
                    try simp only [Act.put]
                    have h2 := box_kept h2 gs
                    have h4 := box_kept h4 gs
                    clear g gs hHeld
                    exact N0_2_4 u b0 b2 b4 gn h0 h2 h4
                  refine AllReadyH.cons rfl (fun K hK => ?_) ?_
                  · refine step_append_grows rfl (.tmp 85) (.tmp 87) 23 rfl 41 i1 (.agg #[.string ⟨#[]⟩, .int .i64 0, .int .i64 0, .int .i64 0, .string ⟨#[]⟩, .int .i64 0, .slice none 0 0, .slice none 0 0, .slice none 0 0]) 9 136 Tryz.underlying23 hj jz0 jz1 jz2 rfl (by decide) (some ⟨b2, 0, none⟩) 1 1 (acells (inA ⟨#[115, 116, 97, 114, 116, 115]⟩ ⟨va, x.length, vc⟩)) rfl (fun e => by cases e) rfl (fun b e => by cases e; exact World.news_of_block h2) ⟨b4, 0, none⟩ 1 1 (acells (inA ⟨#[101, 110, 100, 115]⟩ ⟨ea, x.length, ec⟩)) rfl rfl (World.news_of_block h4) (acell_one _) (by omega) (by simp only [maxLen]; omega) (by omega) ?_
                    intro v5 u hown gs
                    obtain ⟨g5, c5, rfl⟩ := own_slice hown (by omega)
                    have h5 : IsAttrs u (.slice (some ⟨g5, 0, none⟩) (1 + 1) c5) [inA ⟨#[115, 116, 97, 114, 116, 115]⟩ ⟨va, x.length, vc⟩, inA ⟨#[101, 110, 100, 115]⟩ ⟨ea, x.length, ec⟩] := own_attrs (base := v.heap.size) hown (by simp)
                    clear hown
                    have gn := grown_trans g gs
                    refine hK.out _ _ gn (fun hHeld => ?_)
                    clear hK K
                    try simp only [Act.put]
                    have h2 := box_kept h2 gs
                    have h4 := box_kept h4 gs
                    clear g gs hHeld
                    exact N2_4_5 u b2 b4 g5 c5 gn h2 h4 h5
                  refine AllReadyH.cons rfl (fun K hK => ?_) ?_
                  · go_simp
                    have h8 := heap_alloc_new v (.cells #[.int .i64 ty, .slice aa an ac, .slice ad zs.length ak] 32)
                    have gs := grown_new v (.cells #[.int .i64 ty, .slice aa an ac, .slice ad zs.length ak] 32)
                    generalize hvn : v.alloc (.cells #[.int .i64 ty, .slice aa an ac, .slice ad zs.length ak] 32) = u at h8 gs ⊢
                    clear hvn
                    generalize v.heap.size = b8 at h8 ⊢
                    have gn := grown_trans g gs
                    refine hK.out _ _ gn (fun hHeld => ?_)
                    clear hK K
                    try simp only [Act.put]
                    have h2 := box_kept h2 gs
                    have h4 := box_kept h4 gs
                    clear g gs hHeld
                    refine cast ?_ (N2_4_8 u b2 b4 b8 gn h2 h4 h8)
                    kernel_rfl
                  refine AllReadyH.cons rfl (fun K hK => ?_) ?_
                  · have hb13 := g.size
                    go_simp
                    have h13 := heap_alloc_new v (.cells #[.int .i64 0, .slice none 0 0, .slice none 0 0] 32)
                    have gs := grown_new v (.cells #[.int .i64 0, .slice none 0 0, .slice none 0 0] 32)
                    generalize hvn : v.alloc (.cells #[.int .i64 0, .slice none 0 0, .slice none 0 0] 32) = u at h13 gs ⊢
                    clear hvn
                    generalize v.heap.size = b13 at h13 hb13 ⊢
                    have gn := grown_trans g gs
                    refine hK.out _ _ gn (fun hHeld => ?_)
                    clear hK K
                    try simp only [Act.put]
                    have h2 := box_kept h2 gs
                    have h4 := box_kept h4 gs
                    clear g gs hHeld
                    refine cast ?_ (N2_4_13 u b2 b4 b13 gn h2 h4 h13 hb13)
                    kernel_rfl
                  exact AllReadyH.nil
                · intro v b0 b13 g h0 h13 hb13
                  refine wpAnyH_ready (rs := [2, 8]) (by kernel_rfl) (by simp) ?_
                  refine AllReadyH.cons rfl (fun K hK => ?_) ?_
                  · go_simp
                    refine (M1.out v).mono ?_
                    rintro e u ⟨rfl, hvn⟩
                    have h2 := heap_alloc_new v (.cells #[.string ⟨#[115, 116, 97, 114, 116, 115]⟩, .int .i64 7, .int .i64 0, .int .i64 0, .string ⟨#[]⟩, .int .i64 0, .slice none 0 0, .slice none 0 0, .slice va x.length vc] 41)
                    rw [← hvn] at h2
                    have gs : v.grownBy u none := by rw [hvn]; exact grown_new _ _
                    clear hvn
                    generalize v.heap.size = b2 at h2 ⊢
                    have gn := grown_trans g gs
                    refine hK.out _ _ gn (fun hHeld => ?_)
                    clear hK K
                    try simp only [Act.put]
                    have h0 := box_kept h0 gs
                    have h13 := box_kept h13 gs
                    clear g gs hHeld
                    refine cast ?_ (N0_2_13 u b0 b2 b13 gn h0 h2 h13 hb13)
                    kernel_rfl
                  refine AllReadyH.cons rfl (fun K hK => ?_) ?_
                  · go_simp
                    have h8 := heap_alloc_new v (.cells #[.int .i64 ty, .slice aa an ac, .slice ad zs.length ak] 32)
                    have gs := grown_new v (.cells #[.int .i64 ty, .slice aa an ac, .slice ad zs.length ak] 32)
                    generalize hvn : v.alloc (.cells #[.int .i64 ty, .slice aa an ac, .slice ad zs.length ak] 32) = u at h8 gs ⊢
                    clear hvn
                    generalize v.heap.size = b8 at h8 ⊢
                    have gn := grown_trans g gs
                    refine hK.out _ _ gn (fun hHeld => ?_)
                    clear hK K
                    try simp only [Act.put]
                    have h0 := box_kept h0 gs
                    have h13 := box_kept h13 gs
                    clear g gs hHeld
                    refine cast ?_ (N0_8_13 u b0 b8 b13 gn h0 h8 h13 hb13)
                    kernel_rfl
                  exact AllReadyH.nil
                · intro v b0 b8 g h0 h8
                  refine wpAnyH_ready (rs := [2, 13]) (by kernel_rfl) (by simp) ?_
                  refine AllReadyH.cons rfl (fun K hK => ?_) ?_
                  · go_simp
                    refine (M1.out v).mono ?_
                    rintro e u ⟨rfl, hvn⟩
                    have h2 := heap_alloc_new v (.cells #[.string ⟨#[115, 116, 97, 114, 116, 115]⟩, .int .i64 7, .int .i64 0, .int .i64 0, .string ⟨#[]⟩, .int .i64 0, .slice none 0 0, .slice none 0 0, .slice va x.length vc] 41)
                    rw [← hvn] at h2
                    have gs : v.grownBy u none := by rw [hvn]; exact grown_new _ _
                    clear hvn
                    generalize v.heap.size = b2 at h2 ⊢
                    have gn := grown_trans g gs
                    refine hK.out _ _ gn (fun hHeld => ?_)
                    clear hK K
                    try simp only [Act.put]
                    have h0 := box_kept h0 gs
                    have h8 := box_kept h8 gs
                    clear g gs hHeld
                    refine cast ?_ (N0_2_8 u b0 b2 b8 gn h0 h2 h8)
                    kernel_rfl
                  refine AllReadyH.cons rfl (fun K hK => ?_) ?_
                  · have hb13 := g.size
                    go_simp
                    have h13 := heap_alloc_new v (.cells #[.int .i64 0, .slice none 0 0, .slice none 0 0] 32)
                    have gs := grown_new v (.cells #[.int .i64 0, .slice none 0 0, .slice none 0 0] 32)
                    generalize hvn : v.alloc (.cells #[.int .i64 0, .slice none 0 0, .slice none 0 0] 32) = u at h13 gs ⊢
                    clear hvn
                    generalize v.heap.size = b13 at h13 hb13 ⊢
                    have gn := grown_trans g gs
                    refine hK.out _ _ gn (fun hHeld => ?_)
                    clear hK K
                    try simp only [Act.put]
                    have h0 := box_kept h0 gs
                    have h8 := box_kept h8 gs
                    clear g gs hHeld
                    refine cast ?_ (N0_8_13 u b0 b8 b13 gn h0 h8 h13 hb13)
                    kernel_rfl
                  exact AllReadyH.nil
                · intro v b0 b2 g h0 h2
                  refine wpAnyH_ready (rs := [4, 8, 13]) (by kernel_rfl) (by simp) ?_
                  refine AllReadyH.cons rfl (fun K hK => ?_) ?_
                  · go_simp
                    refine (M2.out v).mono ?_
                    rintro e u ⟨rfl, hvn⟩
                    have h4 := heap_alloc_new v (.cells #[.string ⟨#[101, 110, 100, 115]⟩, .int .i64 7, .int .i64 0, .int .i64 0, .string ⟨#[]⟩, .int .i64 0, .slice none 0 0, .slice none 0 0, .slice ea x.length ec] 41)
                    rw [← hvn] at h4
                    have gs : v.grownBy u none := by rw [hvn]; exact grown_new _ _
                    clear hvn
                    generalize v.heap.size = b4 at h4 ⊢
                    have gn := grown_trans g gs
                    refine hK.out _ _ gn (fun hHeld => ?_)
                    clear hK K
                    try simp only [Act.put]
                    have h0 := box_kept h0 gs
                    have h2 := box_kept h2 gs
                    clear g gs hHeld
                    refine cast ?_ (N0_2_4 u b0 b2 b4 gn h0 h2 h4)
                    kernel_rfl
                  refine AllReadyH.cons rfl (fun K hK => ?_) ?_
                  · go_simp
                    have h8 := heap_alloc_new v (.cells #[.int .i64 ty, .slice aa an ac, .slice ad zs.length ak] 32)
                    have gs := grown_new v (.cells #[.int .i64 ty, .slice aa an ac, .slice ad zs.length ak] 32)
                    generalize hvn : v.alloc (.cells #[.int .i64 ty, .slice aa an ac, .slice ad zs.length ak] 32) = u at h8 gs ⊢
                    clear hvn
                    generalize v.heap.size = b8 at h8 ⊢
                    have gn := grown_trans g gs
                    refine hK.out _ _ gn (fun hHeld => ?_)
                    clear hK K
                    try simp only [Act.put]
                    have h0 := box_kept h0 gs
                    have h2 := box_kept h2 gs
                    clear g gs hHeld
                    refine cast ?_ (N0_2_8 u b0 b2 b8 gn h0 h2 h8)
                    kernel_rfl
                  refine AllReadyH.cons rfl (fun K hK => ?_) ?_
                  · have hb13 := g.size
                    go_simp
                    have h13 := heap_alloc_new v (.cells #[.int .i64 0, .slice none 0 0, .slice none 0 0] 32)
                    have gs := grown_new v (.cells #[.int .i64 0, .slice none 0 0, .slice none 0 0] 32)
                    generalize hvn : v.alloc (.cells #[.int .i64 0, .slice none 0 0, .slice none 0 0] 32) = u at h13 gs ⊢
                    clear hvn
                    generalize v.heap.size = b13 at h13 hb13 ⊢
                    have gn := grown_trans g gs
                    refine hK.out _ _ gn (fun hHeld => ?_)
                    clear hK K
                    try simp only [Act.put]
                    have h0 := box_kept h0 gs
                    have h2 := box_kept h2 gs
                    clear g gs hHeld
                    refine cast ?_ (N0_2_13 u b0 b2 b13 gn h0 h2 h13 hb13)
                    kernel_rfl
                  exact AllReadyH.nil
                · intro v b2 b8 b13 g h2 h8 h13 hb13
                  refine wpAnyH_ready (rs := [0, 4]) (by kernel_rfl) (by simp) ?_
                  refine AllReadyH.cons rfl (fun K hK => ?_) ?_
                  · go_simp
                    have h0 := heap_alloc_new v (.cells #[.string ⟨#[120]⟩] 9)
                    have gs := grown_new v (.cells #[.string ⟨#[120]⟩] 9)
                    generalize hvn : v.alloc (.cells #[.string ⟨#[120]⟩] 9) = u at h0 gs ⊢
                    clear hvn
                    generalize v.heap.size = b0 at h0 ⊢
                    have gn := grown_trans g gs
                    refine hK.out _ _ gn (fun hHeld => ?_)
                    clear hK K
                    try simp only [Act.put]
                    have h2 := box_kept h2 gs
                    have h8 := box_kept h8 gs
                    have h13 := box_kept h13 gs
                    clear g gs hHeld
                    exact N0_2_8_13 u b0 b2 b8 b13 gn h0 h2 h8 h13 hb13
                  refine AllReadyH.cons rfl (fun K hK => ?_) ?_
                  · go_simp
                    refine (M2.out v).mono ?_
                    rintro e u ⟨rfl, hvn⟩
                    have h4 := heap_alloc_new v (.cells #[.string ⟨#[101, 110, 100, 115]⟩, .int .i64 7, .int .i64 0, .int .i64 0, .string ⟨#[]⟩, .int .i64 0, .slice none 0 0, .slice none 0 0, .slice ea x.length ec] 41)
                    rw [← hvn] at h4
                    have gs : v.grownBy u none := by rw [hvn]; exact grown_new _ _
                    clear hvn
                    generalize v.heap.size = b4 at h4 ⊢
                    have gn := grown_trans g gs
                    refine hK.out _ _ gn (fun hHeld => ?_)
                    clear hK K
                    try simp only [Act.put]
                    have h2 := box_kept h2 gs
                    have h8 := box_kept h8 gs
                    have h13 := box_kept h13 gs
                    clear g gs hHeld
                    exact N2_4_8_13 u b2 b4 b8 b13 gn h2 h4 h8 h13 hb13
                  exact AllReadyH.nil
                · intro v b2 b4 b13 g h2 h4 h13 hb13
                  refine wpAnyH_ready (rs := [0, 5, 8]) (by kernel_rfl) (by simp) ?_
                  refine AllReadyH.cons rfl (fun K hK => ?_) ?_
                  · go_simp
                    have h0 := heap_alloc_new v (.cells #[.string ⟨#[120]⟩] 9)
                    have gs := grown_new v (.cells #[.string ⟨#[120]⟩] 9)
                    generalize hvn : v.alloc (.cells #[.string ⟨#[120]⟩] 9) = u at h0 gs ⊢
                    clear hvn
                    generalize v.heap.size = b0 at h0 ⊢
                    have gn := grown_trans g gs
                    refine hK.out _ _ gn (fun hHeld => ?_)
                    clear hK K
                    try simp only [Act.put]
                    have h2 := box_kept h2 gs
                    have h4 := box_kept h4 gs
                    have h13 := box_kept h13 gs
                    clear g gs hHeld
                    exact N0_2_4_13 u b0 b2 b4 b13 gn h0 h2 h4 h13 hb13
                  refine AllReadyH.cons rfl (fun K hK => ?_) ?_
                  · refine step_append_grows rfl (.tmp 85) (.tmp 87) 23 rfl 41 i1 (.agg #[.string ⟨#[]⟩, .int .i64 0, .int .i64 0, .int .i64 0, .string ⟨#[]⟩, .int .i64 0, .slice none 0 0, .slice none 0 0, .slice none 0 0]) 9 136 Tryz.underlying23 hj jz0 jz1 jz2 rfl (by decide) (some ⟨b2, 0, none⟩) 1 1 (acells (inA ⟨#[115, 116, 97, 114, 116, 115]⟩ ⟨va, x.length, vc⟩)) rfl (fun e => by cases e) rfl (fun b e => by cases e; exact World.news_of_block h2) ⟨b4, 0, none⟩ 1 1 (acells (inA ⟨#[101, 110, 100, 115]⟩ ⟨ea, x.length, ec⟩)) rfl rfl (World.news_of_block h4) (acell_one _) (by omega) (by simp only [maxLen]; omega) (by omega) ?_
                    intro v5 u hown gs
                    obtain ⟨g5, c5, rfl⟩ := own_slice hown (by omega)
                    have h5 : IsAttrs u (.slice (some ⟨g5, 0, none⟩) (1 + 1) c5) [inA ⟨#[115, 116, 97, 114, 116, 115]⟩ ⟨va, x.length, vc⟩, inA ⟨#[101, 110, 100, 115]⟩ ⟨ea, x.length, ec⟩] := own_attrs (base := v.heap.size) hown (by simp)
                    clear hown
                    have gn := grown_trans g gs
                    refine hK.out _ _ gn (fun hHeld => ?_)
                    clear hK K
                    try simp only [Act.put]
                    have h2 := box_kept h2 gs
                    have h4 := box_kept h4 gs
                    have h13 := box_kept h13 gs
                    clear g gs hHeld
                    exact N2_4_5_13 u b2 b4 g5 c5 b13 gn h2 h4 h5 h13 hb13
                  refine AllReadyH.cons rfl (fun K hK => ?_) ?_
                  · go_simp
                    have h8 := heap_alloc_new v (.cells #[.int .i64 ty, .slice aa an ac, .slice ad zs.length ak] 32)
                    have gs := grown_new v (.cells #[.int .i64 ty, .slice aa an ac, .slice ad zs.length ak] 32)
                    generalize hvn : v.alloc (.cells #[.int .i64 ty, .slice aa an ac, .slice ad zs.length ak] 32) = u at h8 gs ⊢
                    clear hvn
                    generalize v.heap.size = b8 at h8 ⊢
                    have gn := grown_trans g gs
                    refine hK.out _ _ gn (fun hHeld => ?_)
                    clear hK K
                    try simp only [Act.put]
                    have h2 := box_kept h2 gs
                    have h4 := box_kept h4 gs
                    have h13 := box_kept h13 gs
                    clear g gs hHeld
                    refine cast ?_ (N2_4_8_13 u b2 b4 b8 b13 gn h2 h4 h8 h13 hb13)
                    kernel_rfl
                  exact AllReadyH.nil
                · intro v b2 b4 b8 g h2 h4 h8
                  refine wpAnyH_ready (rs := [0, 5, 13]) (by kernel_rfl) (by simp) ?_
                  refine AllReadyH.cons rfl (fun K hK => ?_) ?_
                  · go_simp
                    have h0 := heap_alloc_new v (.cells #[.string ⟨#[120]⟩] 9)
                    have gs := grown_new v (.cells #[.string ⟨#[120]⟩] 9)
                    generalize hvn : v.alloc (.cells #[.string ⟨#[120]⟩] 9) = u at h0 gs ⊢
                    clear hvn
                    generalize v.heap.size = b0 at h0 ⊢
                    have gn := grown_trans g gs
                    refine hK.out _ _ gn (fun hHeld => ?_)
                    clear hK K
                    try simp only [Act.put]
                    have h2 := box_kept h2 gs
                    have h4 := box_kept h4 gs
                    have h8 := box_kept h8 gs
                    clear g gs hHeld
                    exact N0_2_4_8 u b0 b2 b4 b8 gn h0 h2 h4 h8
                  refine AllReadyH.cons rfl (fun K hK => ?_) ?_
                  · refine step_append_grows rfl (.tmp 85) (.tmp 87) 23 rfl 41 i1 (.agg #[.string ⟨#[]⟩, .int .i64 0, .int .i64 0, .int .i64 0, .string ⟨#[]⟩, .int .i64 0, .slice none 0 0, .slice none 0 0, .slice none 0 0]) 9 136 Tryz.underlying23 hj jz0 jz1 jz2 rfl (by decide) (some ⟨b2, 0, none⟩) 1 1 (acells (inA ⟨#[115, 116, 97, 114, 116, 115]⟩ ⟨va, x.length, vc⟩)) rfl (fun e => by cases e) rfl (fun b e => by cases e; exact World.news_of_block h2) ⟨b4, 0, none⟩ 1 1 (acells (inA ⟨#[101, 110, 100, 115]⟩ ⟨ea, x.length, ec⟩)) rfl rfl (World.news_of_block h4) (acell_one _) (by omega) (by simp only [maxLen]; omega) (by omega) ?_
                    intro v5 u hown gs
                    obtain ⟨g5, c5, rfl⟩ := own_slice hown (by omega)
                    have h5 : IsAttrs u (.slice (some ⟨g5, 0, none⟩) (1 + 1) c5) [inA ⟨#[115, 116, 97, 114, 116, 115]⟩ ⟨va, x.length, vc⟩, inA ⟨#[101, 110, 100, 115]⟩ ⟨ea, x.length, ec⟩] := own_attrs (base := v.heap.size) hown (by simp)
                    clear hown
                    have gn := grown_trans g gs
                    refine hK.out _ _ gn (fun hHeld => ?_)
                    clear hK K
                    try simp only [Act.put]
                    have h2 := box_kept h2 gs
                    have h4 := box_kept h4 gs
                    have h8 := box_kept h8 gs
                    clear g gs hHeld
                    exact N2_4_5_8 u b2 b4 g5 c5 b8 gn h2 h4 h5 h8
                  refine AllReadyH.cons rfl (fun K hK => ?_) ?_
                  · have hb13 := g.size
                    go_simp
                    have h13 := heap_alloc_new v (.cells #[.int .i64 0, .slice none 0 0, .slice none 0 0] 32)
                    have gs := grown_new v (.cells #[.int .i64 0, .slice none 0 0, .slice none 0 0] 32)
                    generalize hvn : v.alloc (.cells #[.int .i64 0, .slice none 0 0, .slice none 0 0] 32) = u at h13 gs ⊢
                    clear hvn
                    generalize v.heap.size = b13 at h13 hb13 ⊢
                    have gn := grown_trans g gs
                    refine hK.out _ _ gn (fun hHeld => ?_)
                    clear hK K
                    try simp only [Act.put]
                    have h2 := box_kept h2 gs
                    have h4 := box_kept h4 gs
                    have h8 := box_kept h8 gs
                    clear g gs hHeld
                    refine cast ?_ (N2_4_8_13 u b2 b4 b8 b13 gn h2 h4 h8 h13 hb13)
                    kernel_rfl
                  exact AllReadyH.nil
                · intro v b2 b4 g5 c5 g h2 h4 h5
                  refine wpAnyH_ready (rs := [0, 8, 13]) (by kernel_rfl) (by simp) ?_
                  refine AllReadyH.cons rfl (fun K hK => ?_) ?_
                  · go_simp
                    have h0 := heap_alloc_new v (.cells #[.string ⟨#[120]⟩] 9)
                    have gs := grown_new v (.cells #[.string ⟨#[120]⟩] 9)
                    generalize hvn : v.alloc (.cells #[.string ⟨#[120]⟩] 9) = u at h0 gs ⊢
                    clear hvn
                    generalize v.heap.size = b0 at h0 ⊢
                    have gn := grown_trans g gs
                    refine hK.out _ _ gn (fun hHeld => ?_)
                    clear hK K
                    try simp only [Act.put]
                    refine wpAnyH_take (i := 6) (v := ?_) rfl (by kernel_rfl) (by kernel_rfl) (by kernel_rfl) (fun _ _ _ h => h) (Or.inl ⟨by kernel_rfl, ?_⟩) (by assumption) ?_
                    rotate_left 1
                    · (intro wS hSw; go_simp; (try with_reducible rfl))
                    try simp only [Act.put]
                    have h2 := box_kept h2 gs
                    have h4 := box_kept h4 gs
                    have h5 := h5.more gs
                    clear g gs hHeld
                    exact N0_2_4_5 u b0 b2 b4 g5 c5 gn h0 h2 h4 h5
                  refine AllReadyH.cons rfl (fun K hK => ?_) ?_
                  · go_simp
                    have h8 := heap_alloc_new v (.cells #[.int .i64 ty, .slice aa an ac, .slice ad zs.length ak] 32)
                    have gs := grown_new v (.cells #[.int .i64 ty, .slice aa an ac, .slice ad zs.length ak] 32)
                    generalize hvn : v.alloc (.cells #[.int .i64 ty, .slice aa an ac, .slice ad zs.length ak] 32) = u at h8 gs ⊢
                    clear hvn
                    generalize v.heap.size = b8 at h8 ⊢
                    have gn := grown_trans g gs
                    refine hK.out _ _ gn (fun hHeld => ?_)
                    clear hK K
                    try simp only [Act.put]
                    have h2 := box_kept h2 gs
                    have h4 := box_kept h4 gs
                    have h5 := h5.more gs
                    clear g gs hHeld
                    refine cast ?_ (N2_4_5_8 u b2 b4 g5 c5 b8 gn h2 h4 h5 h8)
                    kernel_rfl
                  refine AllReadyH.cons rfl (fun K hK => ?_) ?_
                  · have hb13 := g.size
                    go_simp
                    have h13 := heap_alloc_new v (.cells #[.int .i64 0, .slice none 0 0, .slice none 0 0] 32)
                    have gs := grown_new v (.cells #[.int .i64 0, .slice none 0 0, .slice none 0 0] 32)
                    generalize hvn : v.alloc (.cells #[.int .i64 0, .slice none 0 0, .slice none 0 0] 32) = u at h13 gs ⊢
                    clear hvn
                    generalize v.heap.size = b13 at h13 hb13 ⊢
                    have gn := grown_trans g gs
                    refine hK.out _ _ gn (fun hHeld => ?_)
                    clear hK K
                    try simp only [Act.put]
                    have h2 := box_kept h2 gs
                    have h4 := box_kept h4 gs
                    have h5 := h5.more gs
                    clear g gs hHeld
                    refine cast ?_ (N2_4_5_13 u b2 b4 g5 c5 b13 gn h2 h4 h5 h13 hb13)
                    kernel_rfl
                  exact AllReadyH.nil
                · intro v b0 b8 b13 g h0 h8 h13 hb13
                  refine wpAnyH_ready (rs := [2]) (by kernel_rfl) (by simp) ?_
                  refine AllReadyH.cons rfl (fun K hK => ?_) ?_
                  · go_simp
                    refine (M1.out v).mono ?_
                    rintro e u ⟨rfl, hvn⟩
                    have h2 := heap_alloc_new v (.cells #[.string ⟨#[115, 116, 97, 114, 116, 115]⟩, .int .i64 7, .int .i64 0, .int .i64 0, .string ⟨#[]⟩, .int .i64 0, .slice none 0 0, .slice none 0 0, .slice va x.length vc] 41)
                    rw [← hvn] at h2
                    have gs : v.grownBy u none := by rw [hvn]; exact grown_new _ _
                    clear hvn
                    generalize v.heap.size = b2 at h2 ⊢
                    have gn := grown_trans g gs
                    refine hK.out _ _ gn (fun hHeld => ?_)
                    clear hK K
                    try simp only [Act.put]
                    have h0 := box_kept h0 gs
                    have h8 := box_kept h8 gs
                    have h13 := box_kept h13 gs
                    clear g gs hHeld
                    refine cast ?_ (N0_2_8_13 u b0 b2 b8 b13 gn h0 h2 h8 h13 hb13)
                    kernel_rfl
                  exact AllReadyH.nil
                · intro v b0 b2 b13 g h0 h2 h13 hb13
                  refine wpAnyH_ready (rs := [4, 8]) (by kernel_rfl) (by simp) ?_
                  refine AllReadyH.cons rfl (fun K hK => ?_) ?_
                  · go_simp
                    refine (M2.out v).mono ?_
                    rintro e u ⟨rfl, hvn⟩
                    have h4 := heap_alloc_new v (.cells #[.string ⟨#[101, 110, 100, 115]⟩, .int .i64 7, .int .i64 0, .int .i64 0, .string ⟨#[]⟩, .int .i64 0, .slice none 0 0, .slice none 0 0, .slice ea x.length ec] 41)
                    rw [← hvn] at h4
                    have gs : v.grownBy u none := by rw [hvn]; exact grown_new _ _
                    clear hvn
                    generalize v.heap.size = b4 at h4 ⊢
                    have gn := grown_trans g gs
                    refine hK.out _ _ gn (fun hHeld => ?_)
                    clear hK K
                    try simp only [Act.put]
                    have h0 := box_kept h0 gs
                    have h2 := box_kept h2 gs
                    have h13 := box_kept h13 gs
                    clear g gs hHeld
                    refine cast ?_ (N0_2_4_13 u b0 b2 b4 b13 gn h0 h2 h4 h13 hb13)
                    kernel_rfl
                  refine AllReadyH.cons rfl (fun K hK => ?_) ?_
                  · go_simp
                    have h8 := heap_alloc_new v (.cells #[.int .i64 ty, .slice aa an ac, .slice ad zs.length ak] 32)
                    have gs := grown_new v (.cells #[.int .i64 ty, .slice aa an ac, .slice ad zs.length ak] 32)
                    generalize hvn : v.alloc (.cells #[.int .i64 ty, .slice aa an ac, .slice ad zs.length ak] 32) = u at h8 gs ⊢
                    clear hvn
                    generalize v.heap.size = b8 at h8 ⊢
                    have gn := grown_trans g gs
                    refine hK.out _ _ gn (fun hHeld => ?_)
                    clear hK K
                    try simp only [Act.put]
                    have h0 := box_kept h0 gs
                    have h2 := box_kept h2 gs
                    have h13 := box_kept h13 gs
                    clear g gs hHeld
                    refine cast ?_ (N0_2_8_13 u b0 b2 b8 b13 gn h0 h2 h8 h13 hb13)
                    kernel_rfl
                  exact AllReadyH.nil
                · intro v b0 b2 b8 g h0 h2 h8
                  refine wpAnyH_ready (rs := [4, 13]) (by kernel_rfl) (by simp) ?_
                  refine AllReadyH.cons rfl (fun K hK => ?_) ?_
                  · go_simp
                    refine (M2.out v).mono ?_
                    rintro e u ⟨rfl, hvn⟩
                    have h4 := heap_alloc_new v (.cells #[.string ⟨#[101, 110, 100, 115]⟩, .int .i64 7, .int .i64 0, .int .i64 0, .string ⟨#[]⟩, .int .i64 0, .slice none 0 0, .slice none 0 0, .slice ea x.length ec] 41)
                    rw [← hvn] at h4
                    have gs : v.grownBy u none := by rw [hvn]; exact grown_new _ _
                    clear hvn
                    generalize v.heap.size = b4 at h4 ⊢
                    have gn := grown_trans g gs
                    refine hK.out _ _ gn (fun hHeld => ?_)
                    clear hK K
                    try simp only [Act.put]
                    have h0 := box_kept h0 gs
                    have h2 := box_kept h2 gs
                    have h8 := box_kept h8 gs
                    clear g gs hHeld
                    refine cast ?_ (N0_2_4_8 u b0 b2 b4 b8 gn h0 h2 h4 h8)
                    kernel_rfl
                  refine AllReadyH.cons rfl (fun K hK => ?_) ?_
                  · have hb13 := g.size
                    go_simp
                    have h13 := heap_alloc_new v (.cells #[.int .i64 0, .slice none 0 0, .slice none 0 0] 32)
                    have gs := grown_new v (.cells #[.int .i64 0, .slice none 0 0, .slice none 0 0] 32)
                    generalize hvn : v.alloc (.cells #[.int .i64 0, .slice none 0 0, .slice none 0 0] 32) = u at h13 gs ⊢
                    clear hvn
                    generalize v.heap.size = b13 at h13 hb13 ⊢
                    have gn := grown_trans g gs
                    refine hK.out _ _ gn (fun hHeld => ?_)
                    clear hK K
                    try simp only [Act.put]
                    have h0 := box_kept h0 gs
                    have h2 := box_kept h2 gs
                    have h8 := box_kept h8 gs
                    clear g gs hHeld
                    refine cast ?_ (N0_2_8_13 u b0 b2 b8 b13 gn h0 h2 h8 h13 hb13)
                    kernel_rfl
                  exact AllReadyH.nil
                · intro v b0 b2 b4 g h0 h2 h4
                  refine wpAnyH_ready (rs := [5, 8, 13]) (by kernel_rfl) (by simp) ?_
                  refine AllReadyH.cons rfl (fun K hK => ?_) ?_
                  · refine step_append_grows rfl (.tmp 85) (.tmp 87) 23 rfl 41 i1 (.agg #[.string ⟨#[]⟩, .int .i64 0, .int .i64 0, .int .i64 0, .string ⟨#[]⟩, .int .i64 0, .slice none 0 0, .slice none 0 0, .slice none 0 0]) 9 136 Tryz.underlying23 hj jz0 jz1 jz2 rfl (by decide) (some ⟨b2, 0, none⟩) 1 1 (acells (inA ⟨#[115, 116, 97, 114, 116, 115]⟩ ⟨va, x.length, vc⟩)) rfl (fun e => by cases e) rfl (fun b e => by cases e; exact World.news_of_block h2) ⟨b4, 0, none⟩ 1 1 (acells (inA ⟨#[101, 110, 100, 115]⟩ ⟨ea, x.length, ec⟩)) rfl rfl (World.news_of_block h4) (acell_one _) (by omega) (by simp only [maxLen]; omega) (by omega) ?_
                    intro v5 u hown gs
                    obtain ⟨g5, c5, rfl⟩ := own_slice hown (by omega)
                    have h5 : IsAttrs u (.slice (some ⟨g5, 0, none⟩) (1 + 1) c5) [inA ⟨#[115, 116, 97, 114, 116, 115]⟩ ⟨va, x.length, vc⟩, inA ⟨#[101, 110, 100, 115]⟩ ⟨ea, x.length, ec⟩] := own_attrs (base := v.heap.size) hown (by simp)
                    clear hown
                    have gn := grown_trans g gs
                    refine hK.out _ _ gn (fun hHeld => ?_)
                    clear hK K
                    try simp only [Act.put]
                    refine wpAnyH_take (i := 6) (v := ?_) rfl (by kernel_rfl) (by kernel_rfl) (by kernel_rfl) (fun _ _ _ h => h) (Or.inl ⟨by kernel_rfl, ?_⟩) (by assumption) ?_
                    rotate_left 1
                    · (intro wS hSw; go_simp; (try with_reducible rfl))
                    try simp only [Act.put]
                    have h0 := box_kept h0 gs
                    have h2 := box_kept h2 gs
                    have h4 := box_kept h4 gs
                    clear g gs hHeld
                    refine cast ?_ (N0_2_4_5 u b0 b2 b4 g5 c5 gn h0 h2 h4 h5)
                    kernel_rfl
                  refine AllReadyH.cons rfl (fun K hK => ?_) ?_
                  · go_simp
                    have h8 := heap_alloc_new v (.cells #[.int .i64 ty, .slice aa an ac, .slice ad zs.length ak] 32)
                    have gs := grown_new v (.cells #[.int .i64 ty, .slice aa an ac, .slice ad zs.length ak] 32)
                    generalize hvn : v.alloc (.cells #[.int .i64 ty, .slice aa an ac, .slice ad zs.length ak] 32) = u at h8 gs ⊢
                    clear hvn
                    generalize v.heap.size = b8 at h8 ⊢
                    have gn := grown_trans g gs
                    refine hK.out _ _ gn (fun hHeld => ?_)
                    clear hK K
                    try simp only [Act.put]
                    have h0 := box_kept h0 gs
                    have h2 := box_kept h2 gs
                    have h4 := box_kept h4 gs
                    clear g gs hHeld
                    refine cast ?_ (N0_2_4_8 u b0 b2 b4 b8 gn h0 h2 h4 h8)
                    kernel_rfl
                  refine AllReadyH.cons rfl (fun K hK => ?_) ?_
                  · have hb13 := g.size
                    go_simp
                    have h13 := heap_alloc_new v (.cells #[.int .i64 0, .slice none 0 0, .slice none 0 0] 32)
                    have gs := grown_new v (.cells #[.int .i64 0, .slice none 0 0, .slice none 0 0] 32)
                    generalize hvn : v.alloc (.cells #[.int .i64 0, .slice none 0 0, .slice none 0 0] 32) = u at h13 gs ⊢
                    clear hvn
                    generalize v.heap.size = b13 at h13 hb13 ⊢
                    have gn := grown_trans g gs
                    refine hK.out _ _ gn (fun hHeld => ?_)
                    clear hK K
                    try simp only [Act.put]
                    have h0 := box_kept h0 gs
                    have h2 := box_kept h2 gs
                    have h4 := box_kept h4 gs
                    clear g gs hHeld
                    refine cast ?_ (N0_2_4_13 u b0 b2 b4 b13 gn h0 h2 h4 h13 hb13)
                    kernel_rfl
                  exact AllReadyH.nil
                · intro v b2 b4 b8 b13 g h2 h4 h8 h13 hb13
                  refine wpAnyH_ready (rs := [0, 5]) (by kernel_rfl) (by simp) ?_
                  refine AllReadyH.cons rfl (fun K hK => ?_) ?_
                  · go_simp
                    have h0 := heap_alloc_new v (.cells #[.string ⟨#[120]⟩] 9)
                    have gs := grown_new v (.cells #[.string ⟨#[120]⟩] 9)
                    generalize hvn : v.alloc (.cells #[.string ⟨#[120]⟩] 9) = u at h0 gs ⊢
                    clear hvn
                    generalize v.heap.size = b0 at h0 ⊢
                    have gn := grown_trans g gs
                    refine hK.out _ _ gn (fun hHeld => ?_)
                    clear hK K
                    try simp only [Act.put]
                    have h2 := box_kept h2 gs
                    have h4 := box_kept h4 gs
                    have h8 := box_kept h8 gs
                    have h13 := box_kept h13 gs
                    clear g gs hHeld
                    exact N0_2_4_8_13 u b0 b2 b4 b8 b13 gn h0 h2 h4 h8 h13 hb13
                  refine AllReadyH.cons rfl (fun K hK => ?_) ?_
                  · refine step_append_grows rfl (.tmp 85) (.tmp 87) 23 rfl 41 i1 (.agg #[.string ⟨#[]⟩, .int .i64 0, .int .i64 0, .int .i64 0, .string ⟨#[]⟩, .int .i64 0, .slice none 0 0, .slice none 0 0, .slice none 0 0]) 9 136 Tryz.underlying23 hj jz0 jz1 jz2 rfl (by decide) (some ⟨b2, 0, none⟩) 1 1 (acells (inA ⟨#[115, 116, 97, 114, 116, 115]⟩ ⟨va, x.length, vc⟩)) rfl (fun e => by cases e) rfl (fun b e => by cases e; exact World.news_of_block h2) ⟨b4, 0, none⟩ 1 1 (acells (inA ⟨#[101, 110, 100, 115]⟩ ⟨ea, x.length, ec⟩)) rfl rfl (World.news_of_block h4) (acell_one _) (by omega) (by simp only [maxLen]; omega) (by omega) ?_
                    intro v5 u hown gs
                    obtain ⟨g5, c5, rfl⟩ := own_slice hown (by omega)
                    have h5 : IsAttrs u (.slice (some ⟨g5, 0, none⟩) (1 + 1) c5) [inA ⟨#[115, 116, 97, 114, 116, 115]⟩ ⟨va, x.length, vc⟩, inA ⟨#[101, 110, 100, 115]⟩ ⟨ea, x.length, ec⟩] := own_attrs (base := v.heap.size) hown (by simp)
                    clear hown
                    have gn := grown_trans g gs
                    refine hK.out _ _ gn (fun hHeld => ?_)
                    clear hK K
                    try simp only [Act.put]
                    have h2 := box_kept h2 gs
                    have h4 := box_kept h4 gs
                    have h8 := box_kept h8 gs
                    have h13 := box_kept h13 gs
                    clear g gs hHeld
                    exact N2_4_5_8_13 u b2 b4 g5 c5 b8 b13 gn h2 h4 h5 h8 h13 hb13
                  exact AllReadyH.nil
                · intro v b2 b4 g5 c5 b13 g h2 h4 h5 h13 hb13
                  refine wpAnyH_ready (rs := [0, 8]) (by kernel_rfl) (by simp) ?_
                  refine AllReadyH.cons rfl (fun K hK => ?_) ?_
                  · go_simp
                    have h0 := heap_alloc_new v (.cells #[.string ⟨#[120]⟩] 9)
                    have gs := grown_new v (.cells #[.string ⟨#[120]⟩] 9)
                    generalize hvn : v.alloc (.cells #[.string ⟨#[120]⟩] 9) = u at h0 gs ⊢
                    clear hvn
                    generalize v.heap.size = b0 at h0 ⊢
                    have gn := grown_trans g gs
                    refine hK.out _ _ gn (fun hHeld => ?_)
                    clear hK K
                    try simp only [Act.put]
                    refine wpAnyH_take (i := 6) (v := ?_) rfl (by kernel_rfl) (by kernel_rfl) (by kernel_rfl) (fun _ _ _ h => h) (Or.inl ⟨by kernel_rfl, ?_⟩) (by assumption) ?_
                    rotate_left 1
                    · (intro wS hSw; go_simp; (try with_reducible rfl))
                    try simp only [Act.put]
                    have h2 := box_kept h2 gs
                    have h4 := box_kept h4 gs
                    have h5 := h5.more gs
                    have h13 := box_kept h13 gs
                    clear g gs hHeld
                    exact N0_2_4_5_13 u b0 b2 b4 g5 c5 b13 gn h0 h2 h4 h5 h13 hb13
                  refine AllReadyH.cons rfl (fun K hK => ?_) ?_
                  · go_simp
                    have h8 := heap_alloc_new v (.cells #[.int .i64 ty, .slice aa an ac, .slice ad zs.length ak] 32)
                    have gs := grown_new v (.cells #[.int .i64 ty, .slice aa an ac, .slice ad zs.length ak] 32)
                    generalize hvn : v.alloc (.cells #[.int .i64 ty, .slice aa an ac, .slice ad zs.length ak] 32) = u at h8 gs ⊢
                    clear hvn
                    generalize v.heap.size = b8 at h8 ⊢
                    have gn := grown_trans g gs
                    refine hK.out _ _ gn (fun hHeld => ?_)
                    clear hK K
                    try simp only [Act.put]
                    have h2 := box_kept h2 gs
                    have h4 := box_kept h4 gs
                    have h5 := h5.more gs
                    have h13 := box_kept h13 gs
                    clear g gs hHeld
                    refine cast ?_ (N2_4_5_8_13 u b2 b4 g5 c5 b8 b13 gn h2 h4 h5 h8 h13 hb13)
                    kernel_rfl
                  exact AllReadyH.nil
                · intro v b2 b4 g5 c5 b8 g h2 h4 h5 h8
                  refine wpAnyH_ready (rs := [0, 13]) (by kernel_rfl) (by simp) ?_
                  refine AllReadyH.cons rfl (fun K hK => ?_) ?_
                  · go_simp
                    have h0 := heap_alloc_new v (.cells #[.string ⟨#[120]⟩] 9)
                    have gs := grown_new v (.cells #[.string ⟨#[120]⟩] 9)
                    generalize hvn : v.alloc (.cells #[.string ⟨#[120]⟩] 9) = u at h0 gs ⊢
                    clear hvn
                    generalize v.heap.size = b0 at h0 ⊢
                    have gn := grown_trans g gs
                    refine hK.out _ _ gn (fun hHeld => ?_)
                    clear hK K
                    try simp only [Act.put]
                    refine wpAnyH_take (i := 6) (v := ?_) rfl (by kernel_rfl) (by kernel_rfl) (by kernel_rfl) (fun _ _ _ h => h) (Or.inl ⟨by kernel_rfl, ?_⟩) (by assumption) ?_
                    rotate_left 1
                    · (intro wS hSw; go_simp; (try with_reducible rfl))
                    try simp only [Act.put]
                    have h2 := box_kept h2 gs
                    have h4 := box_kept h4 gs
                    have h5 := h5.more gs
                    have h8 := box_kept h8 gs
                    clear g gs hHeld
                    exact N0_2_4_5_8 u b0 b2 b4 g5 c5 b8 gn h0 h2 h4 h5 h8
                  refine AllReadyH.cons rfl (fun K hK => ?_) ?_
                  · have hb13 := g.size
                    go_simp
                    have h13 := heap_alloc_new v (.cells #[.int .i64 0, .slice none 0 0, .slice none 0 0] 32)
                    have gs := grown_new v (.cells #[.int .i64 0, .slice none 0 0, .slice none 0 0] 32)
                    generalize hvn : v.alloc (.cells #[.int .i64 0, .slice none 0 0, .slice none 0 0] 32) = u at h13 gs ⊢
                    clear hvn
                    generalize v.heap.size = b13 at h13 hb13 ⊢
                    have gn := grown_trans g gs
                    refine hK.out _ _ gn (fun hHeld => ?_)
                    clear hK K
                    try simp only [Act.put]
                    have h2 := box_kept h2 gs
                    have h4 := box_kept h4 gs
                    have h5 := h5.more gs
                    have h8 := box_kept h8 gs
                    clear g gs hHeld
                    refine cast ?_ (N2_4_5_8_13 u b2 b4 g5 c5 b8 b13 gn h2 h4 h5 h8 h13 hb13)
                    kernel_rfl
                  exact AllReadyH.nil
                · intro v b0 b2 b8 b13 g h0 h2 h8 h13 hb13
                  refine wpAnyH_ready (rs := [4]) (by kernel_rfl) (by simp) ?_
                  refine AllReadyH.cons rfl (fun K hK => ?_) ?_
                  · go_simp
                    refine (M2.out v).mono ?_
                    rintro e u ⟨rfl, hvn⟩
                    have h4 := heap_alloc_new v (.cells #[.string ⟨#[101, 110, 100, 115]⟩, .int .i64 7, .int .i64 0, .int .i64 0, .string ⟨#[]⟩, .int .i64 0, .slice none 0 0, .slice none 0 0, .slice ea x.length ec] 41)
                    rw [← hvn] at h4
                    have gs : v.grownBy u none := by rw [hvn]; exact grown_new _ _
                    clear hvn
                    generalize v.heap.size = b4 at h4 ⊢
                    have gn := grown_trans g gs
                    refine hK.out _ _ gn (fun hHeld => ?_)
                    clear hK K
                    try simp only [Act.put]
                    have h0 := box_kept h0 gs
                    have h2 := box_kept h2 gs
                    have h8 := box_kept h8 gs
                    have h13 := box_kept h13 gs
                    clear g gs hHeld
                    refine cast ?_ (N0_2_4_8_13 u b0 b2 b4 b8 b13 gn h0 h2 h4 h8 h13 hb13)
                    kernel_rfl
                  exact AllReadyH.nil
                · intro v b0 b2 b4 b13 g h0 h2 h4 h13 hb13
                  refine wpAnyH_ready (rs := [5, 8]) (by kernel_rfl) (by simp) ?_
                  refine AllReadyH.cons rfl (fun K hK => ?_) ?_
                  · refine step_append_grows rfl (.tmp 85) (.tmp 87) 23 rfl 41 i1 (.agg #[.string ⟨#[]⟩, .int .i64 0, .int .i64 0, .int .i64 0, .string ⟨#[]⟩, .int .i64 0, .slice none 0 0, .slice none 0 0, .slice none 0 0]) 9 136 Tryz.underlying23 hj jz0 jz1 jz2 rfl (by decide) (some ⟨b2, 0, none⟩) 1 1 (acells (inA ⟨#[115, 116, 97, 114, 116, 115]⟩ ⟨va, x.length, vc⟩)) rfl (fun e => by cases e) rfl (fun b e => by cases e; exact World.news_of_block h2) ⟨b4, 0, none⟩ 1 1 (acells (inA ⟨#[101, 110, 100, 115]⟩ ⟨ea, x.length, ec⟩)) rfl rfl (World.news_of_block h4) (acell_one _) (by omega) (by simp only [maxLen]; omega) (by omega) ?_
                    intro v5 u hown gs
                    obtain ⟨g5, c5, rfl⟩ := own_slice hown (by omega)
                    have h5 : IsAttrs u (.slice (some ⟨g5, 0, none⟩) (1 + 1) c5) [inA ⟨#[115, 116, 97, 114, 116, 115]⟩ ⟨va, x.length, vc⟩, inA ⟨#[101, 110, 100, 115]⟩ ⟨ea, x.length, ec⟩] := own_attrs (base := v.heap.size) hown (by simp)
                    clear hown
                    have gn := grown_trans g gs
                    refine hK.out _ _ gn (fun hHeld => ?_)
                    clear hK K
                    try simp only [Act.put]
                    refine wpAnyH_take (i := 6) (v := ?_) rfl (by kernel_rfl) (by kernel_rfl) (by kernel_rfl) (fun _ _ _ h => h) (Or.inl ⟨by kernel_rfl, ?_⟩) (by assumption) ?_
                    rotate_left 1
                    · (intro wS hSw; go_simp; (try with_reducible rfl))
                    try simp only [Act.put]
                    have h0 := box_kept h0 gs
                    have h2 := box_kept h2 gs
                    have h4 := box_kept h4 gs
                    have h13 := box_kept h13 gs
                    clear g gs hHeld
                    refine cast ?_ (N0_2_4_5_13 u b0 b2 b4 g5 c5 b13 gn h0 h2 h4 h5 h13 hb13)
                    kernel_rfl
                  refine AllReadyH.cons rfl (fun K hK => ?_) ?_
                  · go_simp
                    have h8 := heap_alloc_new v (.cells #[.int .i64 ty, .slice aa an ac, .slice ad zs.length ak] 32)
                    have gs := grown_new v (.cells #[.int .i64 ty, .slice aa an ac, .slice ad zs.length ak] 32)
                    generalize hvn : v.alloc (.cells #[.int .i64 ty, .slice aa an ac, .slice ad zs.length ak] 32) = u at h8 gs ⊢
                    clear hvn
                    generalize v.heap.size = b8 at h8 ⊢
                    have gn := grown_trans g gs
                    refine hK.out _ _ gn (fun hHeld => ?_)
                    clear hK K
                    try simp only [Act.put]
                    have h0 := box_kept h0 gs
                    have h2 := box_kept h2 gs
                    have h4 := box_kept h4 gs
                    have h13 := box_kept h13 gs
                    clear g gs hHeld
                    refine cast ?_ (N0_2_4_8_13 u b0 b2 b4 b8 b13 gn h0 h2 h4 h8 h13 hb13)
                    kernel_rfl
                  exact AllReadyH.nil
                · intro v b0 b2 b4 b8 g h0 h2 h4 h8
                  refine wpAnyH_ready (rs := [5, 13]) (by kernel_rfl) (by simp) ?_
                  refine AllReadyH.cons rfl (fun K hK => ?_) ?_
                  · refine step_append_grows rfl (.tmp 85) (.tmp 87) 23 rfl 41 i1 (.agg #[.string ⟨#[]⟩, .int .i64 0, .int .i64 0, .int .i64 0, .string ⟨#[]⟩, .int .i64 0, .slice none 0 0, .slice none 0 0, .slice none 0 0]) 9 136 Tryz.underlying23 hj jz0 jz1 jz2 rfl (by decide) (some ⟨b2, 0, none⟩) 1 1 (acells (inA ⟨#[115, 116, 97, 114, 116, 115]⟩ ⟨va, x.length, vc⟩)) rfl (fun e => by cases e) rfl (fun b e => by cases e; exact World.news_of_block h2) ⟨b4, 0, none⟩ 1 1 (acells (inA ⟨#[101, 110, 100, 115]⟩ ⟨ea, x.length, ec⟩)) rfl rfl (World.news_of_block h4) (acell_one _) (by omega) (by simp only [maxLen]; omega) (by omega) ?_
                    intro v5 u hown gs
                    obtain ⟨g5, c5, rfl⟩ := own_slice hown (by omega)
                    have h5 : IsAttrs u (.slice (some ⟨g5, 0, none⟩) (1 + 1) c5) [inA ⟨#[115, 116, 97, 114, 116, 115]⟩ ⟨va, x.length, vc⟩, inA ⟨#[101, 110, 100, 115]⟩ ⟨ea, x.length, ec⟩] := own_attrs (base := v.heap.size) hown (by simp)
                    clear hown
                    have gn := grown_trans g gs
                    refine hK.out _ _ gn (fun hHeld => ?_)
                    clear hK K
                    try simp only [Act.put]
                    refine wpAnyH_take (i := 6) (v := ?_) rfl (by kernel_rfl) (by kernel_rfl) (by kernel_rfl) (fun _ _ _ h => h) (Or.inl ⟨by kernel_rfl, ?_⟩) (by assumption) ?_
                    rotate_left 1
                    · (intro wS hSw; go_simp; (try with_reducible rfl))
                    try simp only [Act.put]
                    have h0 := box_kept h0 gs
                    have h2 := box_kept h2 gs
                    have h4 := box_kept h4 gs
                    have h8 := box_kept h8 gs
                    clear g gs hHeld
                    refine cast ?_ (N0_2_4_5_8 u b0 b2 b4 g5 c5 b8 gn h0 h2 h4 h5 h8)
                    kernel_rfl
                  refine AllReadyH.cons rfl (fun K hK => ?_) ?_
                  · have hb13 := g.size
                    go_simp
                    have h13 := heap_alloc_new v (.cells #[.int .i64 0, .slice none 0 0, .slice none 0 0] 32)
                    have gs := grown_new v (.cells #[.int .i64 0, .slice none 0 0, .slice none 0 0] 32)
                    generalize hvn : v.alloc (.cells #[.int .i64 0, .slice none 0 0, .slice none 0 0] 32) = u at h13 gs ⊢
                    clear hvn
                    generalize v.heap.size = b13 at h13 hb13 ⊢
                    have gn := grown_trans g gs
                    refine hK.out _ _ gn (fun hHeld => ?_)
                    clear hK K
                    try simp only [Act.put]
                    have h0 := box_kept h0 gs
                    have h2 := box_kept h2 gs
                    have h4 := box_kept h4 gs
                    have h8 := box_kept h8 gs
                    clear g gs hHeld
                    refine cast ?_ (N0_2_4_8_13 u b0 b2 b4 b8 b13 gn h0 h2 h4 h8 h13 hb13)
                    kernel_rfl
                  exact AllReadyH.nil
                · intro v b0 b2 b4 g5 c5 g h0 h2 h4 h5
                  refine wpAnyH_ready (rs := [8, 13]) (by kernel_rfl) (by simp) ?_
                  refine AllReadyH.cons rfl (fun K hK => ?_) ?_
                  · go_simp
                    have h8 := heap_alloc_new v (.cells #[.int .i64 ty, .slice aa an ac, .slice ad zs.length ak] 32)
                    have gs := grown_new v (.cells #[.int .i64 ty, .slice aa an ac, .slice ad zs.length ak] 32)
                    generalize hvn : v.alloc (.cells #[.int .i64 ty, .slice aa an ac, .slice ad zs.length ak] 32) = u at h8 gs ⊢
                    clear hvn
                    generalize v.heap.size = b8 at h8 ⊢
                    have gn := grown_trans g gs
                    refine hK.out _ _ gn (fun hHeld => ?_)
                    clear hK K
                    try simp only [Act.put]
                    have h0 := box_kept h0 gs
                    have h2 := box_kept h2 gs
                    have h4 := box_kept h4 gs
                    have h5 := h5.more gs
                    clear g gs hHeld
                    refine cast ?_ (N0_2_4_5_8 u b0 b2 b4 g5 c5 b8 gn h0 h2 h4 h5 h8)
                    kernel_rfl
                  refine AllReadyH.cons rfl (fun K hK => ?_) ?_
                  · have hb13 := g.size
                    go_simp
                    have h13 := heap_alloc_new v (.cells #[.int .i64 0, .slice none 0 0, .slice none 0 0] 32)
                    have gs := grown_new v (.cells #[.int .i64 0, .slice none 0 0, .slice none 0 0] 32)
                    generalize hvn : v.alloc (.cells #[.int .i64 0, .slice none 0 0, .slice none 0 0] 32) = u at h13 gs ⊢
                    clear hvn
                    generalize v.heap.size = b13 at h13 hb13 ⊢
                    have gn := grown_trans g gs
                    refine hK.out _ _ gn (fun hHeld => ?_)
                    clear hK K
                    try simp only [Act.put]
                    have h0 := box_kept h0 gs
                    have h2 := box_kept h2 gs
                    have h4 := box_kept h4 gs
                    have h5 := h5.more gs
                    clear g gs hHeld
                    refine cast ?_ (N0_2_4_5_13 u b0 b2 b4 g5 c5 b13 gn h0 h2 h4 h5 h13 hb13)
                    kernel_rfl
                  exact AllReadyH.nil
                · intro v b2 b4 g5 c5 b8 b13 g h2 h4 h5 h8 h13 hb13
                  refine wpAnyH_ready (rs := [0]) (by kernel_rfl) (by simp) ?_
                  refine AllReadyH.cons rfl (fun K hK => ?_) ?_
                  · go_simp
                    have h0 := heap_alloc_new v (.cells #[.string ⟨#[120]⟩] 9)
                    have gs := grown_new v (.cells #[.string ⟨#[120]⟩] 9)
                    generalize hvn : v.alloc (.cells #[.string ⟨#[120]⟩] 9) = u at h0 gs ⊢
                    clear hvn
                    generalize v.heap.size = b0 at h0 ⊢
                    have gn := grown_trans g gs
                    refine hK.out _ _ gn (fun hHeld => ?_)
                    clear hK K
                    try simp only [Act.put]
                    refine wpAnyH_take (i := 6) (v := ?_) rfl (by kernel_rfl) (by kernel_rfl) (by kernel_rfl) (fun _ _ _ h => h) (Or.inl ⟨by kernel_rfl, ?_⟩) (by assumption) ?_
                    rotate_left 1
                    · (intro wS hSw; go_simp; (try with_reducible rfl))
                    try simp only [Act.put]
                    have h2 := box_kept h2 gs
                    have h4 := box_kept h4 gs
                    have h5 := h5.more gs
                    have h8 := box_kept h8 gs
                    have h13 := box_kept h13 gs
                    clear g gs hHeld
                    exact N0_2_4_5_8_13 u b0 b2 b4 g5 c5 b8 b13 gn h0 h2 h4 h5 h8 h13 hb13
                  exact AllReadyH.nil
                · intro v b0 b2 b4 b8 b13 g h0 h2 h4 h8 h13 hb13
                  refine wpAnyH_ready (rs := [5]) (by kernel_rfl) (by simp) ?_
                  refine AllReadyH.cons rfl (fun K hK => ?_) ?_
                  · refine step_append_grows rfl (.tmp 85) (.tmp 87) 23 rfl 41 i1 (.agg #[.string ⟨#[]⟩, .int .i64 0, .int .i64 0, .int .i64 0, .string ⟨#[]⟩, .int .i64 0, .slice none 0 0, .slice none 0 0, .slice none 0 0]) 9 136 Tryz.underlying23 hj jz0 jz1 jz2 rfl (by decide) (some ⟨b2, 0, none⟩) 1 1 (acells (inA ⟨#[115, 116, 97, 114, 116, 115]⟩ ⟨va, x.length, vc⟩)) rfl (fun e => by cases e) rfl (fun b e => by cases e; exact World.news_of_block h2) ⟨b4, 0, none⟩ 1 1 (acells (inA ⟨#[101, 110, 100, 115]⟩ ⟨ea, x.length, ec⟩)) rfl rfl (World.news_of_block h4) (acell_one _) (by omega) (by simp only [maxLen]; omega) (by omega) ?_
                    intro v5 u hown gs
                    obtain ⟨g5, c5, rfl⟩ := own_slice hown (by omega)
                    have h5 : IsAttrs u (.slice (some ⟨g5, 0, none⟩) (1 + 1) c5) [inA ⟨#[115, 116, 97, 114, 116, 115]⟩ ⟨va, x.length, vc⟩, inA ⟨#[101, 110, 100, 115]⟩ ⟨ea, x.length, ec⟩] := own_attrs (base := v.heap.size) hown (by simp)
                    clear hown
                    have gn := grown_trans g gs
                    refine hK.out _ _ gn (fun hHeld => ?_)
                    clear hK K
                    try simp only [Act.put]
                    refine wpAnyH_take (i := 6) (v := ?_) rfl (by kernel_rfl) (by kernel_rfl) (by kernel_rfl) (fun _ _ _ h => h) (Or.inl ⟨by kernel_rfl, ?_⟩) (by assumption) ?_
                    rotate_left 1
                    · (intro wS hSw; go_simp; (try with_reducible rfl))
                    try simp only [Act.put]
                    have h0 := box_kept h0 gs
                    have h2 := box_kept h2 gs
                    have h4 := box_kept h4 gs
                    have h8 := box_kept h8 gs
                    have h13 := box_kept h13 gs
                    clear g gs hHeld
                    refine cast ?_ (N0_2_4_5_8_13 u b0 b2 b4 g5 c5 b8 b13 gn h0 h2 h4 h5 h8 h13 hb13)
                    kernel_rfl
                  exact AllReadyH.nil
                · intro v b0 b2 b4 g5 c5 b13 g h0 h2 h4 h5 h13 hb13
                  refine wpAnyH_ready (rs := [8]) (by kernel_rfl) (by simp) ?_
                  refine AllReadyH.cons rfl (fun K hK => ?_) ?_
                  · go_simp
                    have h8 := heap_alloc_new v (.cells #[.int .i64 ty, .slice aa an ac, .slice ad zs.length ak] 32)
                    have gs := grown_new v (.cells #[.int .i64 ty, .slice aa an ac, .slice ad zs.length ak] 32)
                    generalize hvn : v.alloc (.cells #[.int .i64 ty, .slice aa an ac, .slice ad zs.length ak] 32) = u at h8 gs ⊢
                    clear hvn
                    generalize v.heap.size = b8 at h8 ⊢
                    have gn := grown_trans g gs
                    refine hK.out _ _ gn (fun hHeld => ?_)
                    clear hK K
                    try simp only [Act.put]
                    have h0 := box_kept h0 gs
                    have h2 := box_kept h2 gs
                    have h4 := box_kept h4 gs
                    have h5 := h5.more gs
                    have h13 := box_kept h13 gs
                    clear g gs hHeld
                    refine cast ?_ (N0_2_4_5_8_13 u b0 b2 b4 g5 c5 b8 b13 gn h0 h2 h4 h5 h8 h13 hb13)
                    kernel_rfl
                  exact AllReadyH.nil
                · intro v b0 b2 b4 g5 c5 b8 g h0 h2 h4 h5 h8
                  refine wpAnyH_ready (rs := [9, 13]) (by kernel_rfl) (by simp) ?_
                  refine AllReadyH.cons rfl (fun K hK => ?_) ?_
                  · go_simp
                    refine (E2.out v b0 g5 c5 b8 g h0 h5 h8).mono ?_
                    intro e u hq
                    obtain ⟨hgd, ⟨na, nn, nc⟩, ⟨nd, nm, nk⟩, rfl, hla⟩ := do_past hq
                    have gn := grown_trans g hgd
                    refine hK.out _ _ gn (fun hHeld => ?_)
                    clear hK K
                    try simp only
                    skip
                    refine wpAnyH_take (i := 10) (v := ?_) rfl (by kernel_rfl) (by kernel_rfl) (by kernel_rfl) (fun _ _ _ h => h) (Or.inl ⟨by kernel_rfl, ?_⟩) (by assumption) ?_
                    rotate_left 1
                    · (intro wS hSw; go_simp; (try with_reducible rfl))
                    try simp only [Act.put]
                    refine wpAnyH_take (i := 11) (v := ?_) rfl (by kernel_rfl) (by kernel_rfl) (by kernel_rfl) (fun _ _ _ h => h) (Or.inl ⟨by kernel_rfl, ?_⟩) (by assumption) ?_
                    rotate_left 1
                    · (intro wS hSw; go_simp; (try with_reducible rfl))
                    try simp only [Act.put]
                    refine wpAnyH_take (i := 12) (v := ?_) rfl (by kernel_rfl) (by kernel_rfl) (by kernel_rfl) (fun _ _ _ h => h) (Or.inl ⟨by kernel_rfl, ?_⟩) (by assumption) ?_
                    rotate_left 1
                    · (intro wS hSw; go_simp; (try with_reducible rfl))
                    try simp only [Act.put]
                    refine wpAnyH_ready (rs := [13]) (by kernel_rfl) (by simp) ?_
                    refine AllReadyH.cons rfl (fun K hK => ?_) AllReadyH.nil
                    go_simp
                    have kB := heap_alloc_new u (.cells #[.int .i64 0, .slice none 0 0, .slice none 0 0] 32)
                    have gs := grown_new u (.cells #[.int .i64 0, .slice none 0 0, .slice none 0 0] 32)
                    have hb13 := gn.size
                    have LB : Hid (∀ wx, u.grownBy wx none → IsInts wx (.slice na nn nc) (rL r2) ∧ IsInts wx (.slice nd nm nk) (rZ r2)) := fun wx hx => hla v.heap.size.pred wx (Nat.pred_lt (by have := (Array.getElem?_eq_some_iff.1 h0).1; omega)) ⟨hx.1, hx.2, hx.3, hx.4, fun i hi _ => hx.5 i hi (by simp)⟩
                    have gn2 := grown_trans gn gs
                    refine hK.out _ _ gn2 (fun hHeld => ?_)
                    clear hK K
                    try simp only [Act.put]
                    generalize hvn : u.alloc (.cells #[.int .i64 0, .slice none 0 0, .slice none 0 0] 32) = y at kB gs gn2 hHeld ⊢
                    clear hvn
                    have lu := Nat.le_refl u.heap.size
                    obtain ⟨b13, hb⟩ : ∃ b, b = u.heap.size := ⟨_, rfl⟩
                    have LC : Hid (∀ wx, y.grownBy wx (some b13) → IsInts wx (.slice na nn nc) (rL r2) ∧ IsInts wx (.slice nd nm nk) (rZ r2)) := fun wx hx => LB.out wx (grown_drop gs hx (by rw [hb]; exact Nat.le_refl _))
                    rw [← hb] at kB hb13 ⊢
                    clear hb lu LB gs
                    replace LB := LC
                    replace gn := gn2
                    clear LC gn2
                    obtain ⟨k0, k1, k2⟩ := ten_cells kB
                    obtain ⟨f0, f1, f2⟩ := ten_frozen kB
                    obtain ⟨st, sg⟩ := store3t (.int .i64 (rTy r2)) (.slice na nn nc) (.slice nd nm nk) kB
                    refine wpAnyH_ready (rs := [14]) (by kernel_rfl) (by simp) ?_
                    refine AllReadyH.cons rfl (fun K hK => ?_) AllReadyH.nil
                    go_simp
                    have gz := grown_drop gn sg hb13
                    refine hK.out _ _ gz (fun hHeld => ?_)
                    clear hK K
                    try simp only [Act.put]
                    refine wpAnyH_take (i := 15) (v := ?_) rfl (by kernel_rfl) (by kernel_rfl) (by kernel_rfl) (fun _ _ _ h => h) (Or.inl ⟨by kernel_rfl, ?_⟩) (by assumption) ?_
                    rotate_left 1
                    · (intro wS hSw; go_simp; (try with_reducible rfl))
                    try simp only [Act.put]
                    refine wpAnyH_done (by kernel_rfl) ?_ _
                    have RE := LB.out _ sg
                    clear h0 h2 h4 h5 h8 hq hla kB k0 k1 k2 f0 f1 f2 g gn hHeld
                    go_simp
                    go_wp2_with fail
                    go_meet
                    exact ⟨gz, b13, ⟨na, nn, nc⟩, ⟨nd, nm, nk⟩, rfl, rfl, hb13, st, RE.1, RE.2⟩
                  refine AllReadyH.cons rfl (fun K hK => ?_) ?_
                  · have hb13 := g.size
                    go_simp
                    have h13 := heap_alloc_new v (.cells #[.int .i64 0, .slice none 0 0, .slice none 0 0] 32)
                    have gs := grown_new v (.cells #[.int .i64 0, .slice none 0 0, .slice none 0 0] 32)
                    generalize hvn : v.alloc (.cells #[.int .i64 0, .slice none 0 0, .slice none 0 0] 32) = u at h13 gs ⊢
                    clear hvn
                    generalize v.heap.size = b13 at h13 hb13 ⊢
                    have gn := grown_trans g gs
                    refine hK.out _ _ gn (fun hHeld => ?_)
                    clear hK K
                    try simp only [Act.put]
                    have h0 := box_kept h0 gs
                    have h2 := box_kept h2 gs
                    have h4 := box_kept h4 gs
                    have h5 := h5.more gs
                    have h8 := box_kept h8 gs
                    clear g gs hHeld
                    refine cast ?_ (N0_2_4_5_8_13 u b0 b2 b4 g5 c5 b8 b13 gn h0 h2 h4 h5 h8 h13 hb13)
                    kernel_rfl
                  exact AllReadyH.nil
                · intro v b0 b2 b4 g5 c5 b8 b13 g h0 h2 h4 h5 h8 h13 hb13
                  refine wpAnyH_ready (rs := [9]) (by kernel_rfl) (by simp) ?_
                  refine AllReadyH.cons rfl (fun K hK => ?_) ?_
                  · go_simp
                    refine (E2.out v b0 g5 c5 b8 g h0 h5 h8).mono ?_
                    intro e u hq
                    obtain ⟨hgd, ⟨na, nn, nc⟩, ⟨nd, nm, nk⟩, rfl, hla⟩ := do_past hq
                    have gn := grown_trans g hgd
                    refine hK.out _ _ gn (fun hHeld => ?_)
                    clear hK K
                    try simp only
                    have kB := box_kept h13 hgd
                    have LB : Hid (∀ wx, u.grownBy wx (some b13) → IsInts wx (.slice na nn nc) (rL r2) ∧ IsInts wx (.slice nd nm nk) (rZ r2)) := fun wx hx => hla b13 wx (Array.getElem?_eq_some_iff.1 h13).1 hx
                    refine wpAnyH_take (i := 10) (v := ?_) rfl (by kernel_rfl) (by kernel_rfl) (by kernel_rfl) (fun _ _ _ h => h) (Or.inl ⟨by kernel_rfl, ?_⟩) (by assumption) ?_
                    rotate_left 1
                    · (intro wS hSw; go_simp; (try with_reducible rfl))
                    try simp only [Act.put]
                    refine wpAnyH_take (i := 11) (v := ?_) rfl (by kernel_rfl) (by kernel_rfl) (by kernel_rfl) (fun _ _ _ h => h) (Or.inl ⟨by kernel_rfl, ?_⟩) (by assumption) ?_
                    rotate_left 1
                    · (intro wS hSw; go_simp; (try with_reducible rfl))
                    try simp only [Act.put]
                    refine wpAnyH_take (i := 12) (v := ?_) rfl (by kernel_rfl) (by kernel_rfl) (by kernel_rfl) (fun _ _ _ h => h) (Or.inl ⟨by kernel_rfl, ?_⟩) (by assumption) ?_
                    rotate_left 1
                    · (intro wS hSw; go_simp; (try with_reducible rfl))
                    try simp only [Act.put]
                    obtain ⟨k0, k1, k2⟩ := ten_cells kB
                    obtain ⟨f0, f1, f2⟩ := ten_frozen kB
                    obtain ⟨st, sg⟩ := store3t (.int .i64 (rTy r2)) (.slice na nn nc) (.slice nd nm nk) kB
                    refine wpAnyH_ready (rs := [14]) (by kernel_rfl) (by simp) ?_
                    refine AllReadyH.cons rfl (fun K hK => ?_) AllReadyH.nil
                    go_simp
                    have gz := grown_drop gn sg hb13
                    refine hK.out _ _ gz (fun hHeld => ?_)
                    clear hK K
                    try simp only [Act.put]
                    refine wpAnyH_take (i := 15) (v := ?_) rfl (by kernel_rfl) (by kernel_rfl) (by kernel_rfl) (fun _ _ _ h => h) (Or.inl ⟨by kernel_rfl, ?_⟩) (by assumption) ?_
                    rotate_left 1
                    · (intro wS hSw; go_simp; (try with_reducible rfl))
                    try simp only [Act.put]
                    refine wpAnyH_done (by kernel_rfl) ?_ _
                    have RE := LB.out _ sg
                    clear h0 h2 h4 h5 h8 h13 hq hla kB k0 k1 k2 f0 f1 f2 g gn hHeld
                    go_simp
                    go_wp2_with fail
                    go_meet
                    exact ⟨gz, b13, ⟨na, nn, nc⟩, ⟨nd, nm, nk⟩, rfl, rfl, hb13, st, RE.1, RE.2⟩
                  exact AllReadyH.nil
              case rest =>
                obtain ⟨hgc, B2, ⟨ba, bn, bc⟩, ⟨bd, bm, bk⟩, rfl, rfl, hB2, hb2, ib, jb⟩ := hcut
                have hr2 := HR2.out
                subst hr2
                simp only [rL, rTy, rZ, Sl.v] at hb2 ib jb
                have hc0 : (rC (Except.ok (tx, x, xs) : R (Int × List Int × List Int)) == 0) = true := rfl
                have GZ := hide (grown_trans GR.out hgc)
                have SA := hide (sameten_eq tx _ _ _ _ x xs wc ib jb (HX.out.more GZ.out) (HXS.out.more GZ.out))
                obtain ⟨z0, z1, z2⟩ := ten_cells (BX.out wc (grown_trans GR0.out hgc))
                obtain ⟨q0, q1, q2⟩ := ten_cells hb2
                clear hgc hB2 hb2 ib jb E2 M1 M2 y0 y1 y2
                go_wp2_with (first | (go_at_call 12; refine SA.out.mono ?_; rintro e w7 ⟨rfl, hg7⟩; have L7 := hide (LV.out w7 (grown_trans GZ.out hg7))) | fail)
                refine L7.out.mono ?_
                rintro e w8 ⟨rfl, hg8⟩
                go_wp2
                go_ret
                exact ⟨rfl, grown_below (grown_trans (grown_trans GZ.out hg7) hg8)⟩

end Go.Proofs.YtaoplfpigjkgpaaGreatDoor
