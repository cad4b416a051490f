/- Joined texts: LRPtsW. -/
import Derived.Test.YtahmmilhmoogbaaGreatDoorPartBU
import Derived.Test.YtahmmilhmoogbaaGreatDoorPartBB
import Derived.Deep.Cut
import Derived.Deep.RegionHeld3
namespace Go.Proofs.YtahmmilhmoogbaaGreatDoor

open Go.RowKit

theorem with_node {N R : Prop} (h : N → R) (n : N) : R := h n

theorem do_pastR {w w' : World} {r : R (Int × List Int × List Int)} {e : Ending} (h : DoQ w r e w') : w.grownBy w' none ∧ ∃ d t : Sl, e = .returned (.tuple #[.agg #[.int .i64 (rTy r), .slice d.a d.n d.c, .slice t.a t.n t.c], .int .i64 (rC r)]) ∧ ∀ C wx, C < w.heap.size → w'.grownBy wx (some C) → IsInts wx d.v (rL r) ∧ IsInts wx t.v (rZ r) := by
  obtain ⟨hg, h⟩ := h
  refine ⟨hg, ?_⟩
  cases r with
  | error c => exact ⟨⟨none, 0, 0⟩, ⟨none, 0, 0⟩, h, fun C wx _ _ => ⟨(owns_nil wx 0).ints, (owns_nil wx 0).ints⟩⟩
  | ok rr =>
    obtain ⟨ty, l, zs⟩ := rr
    obtain ⟨⟨ty', d, t⟩, e1, e2, od, ot⟩ := h
    simp only at e1
    subst e1
    refine ⟨d, t, e2, fun C wx hC hx => ⟨Owns.ints ⟨od.1.kept hx ?_, od.2⟩, OwnsE.ints ⟨ot.1.kept hx ?_, ot.2⟩⟩⟩
    · cases e : d.v.ownBlock with
      | none => exact .inl rfl
      | some k => exact .inr (fun e2 => by have := (od.1.lt k e).1; cases e2; omega)
    · cases e : t.v.ownBlock with
      | none => exact .inl rfl
      | some k => exact .inr (fun e2 => by have := (ot.1.lt k e).1; cases e2; omega)

def NodeD (op : ByteArray) (t : Int) (x xs : List Int) (r : R (Int × List Int × List Int)) (iv av : Sl) (w' : World) : Prop :=
  ∀ (wx : World) (u : Sl) (T0 : Ten), T0.ty = t → w'.grownBy wx none → TensIn wx u.v [(T0, (x, xs))] → Calls Tryz.prog 9 #[.agg #[.string op, .string ⟨#[]⟩, .slice iv.a iv.n iv.c, .string ⟨#[122]⟩, .slice av.a av.n av.c], .slice u.a u.n u.c] wx (DoQ wx r)

theorem NodeD.more {op : ByteArray} {t : Int} {x xs : List Int} {r : R (Int × List Int × List Int)} {iv av : Sl} {w w' : World} (h : NodeD op t x xs r iv av w) (hg : w.grownBy w' none) : NodeD op t x xs r iv av w' := fun wx u T0 ht hx hv => h wx u T0 ht (grown_trans hg hx) hv

theorem rng_m1 : Rng (-1) := by unfold Rng; omega

theorem node_arg0 (t : Int) (x xs : List Int) (w : World) (hl : Laid w) : Calls Tryz.prog 10 #[.string ⟨#[65, 114, 103, 77, 97, 120]⟩, .int .i64 (-1), .int .i64 0] w (NodeQ ⟨#[65, 114, 103, 77, 97, 120]⟩ t x xs (argR (kaAt ⟨#[65, 114, 103, 77, 97, 120]⟩ 0 (-1)) t x xs) w) := by
  refine (axis_int (-1) 0 w).mono ?_
  rintro e w' ⟨iv, av, rfl, hg, hs, hat⟩
  exact ⟨iv, av, rfl, hg, fun wx u T0 ht hx hv' => by
    rw [← ht]
    exact arg_do ⟨⟨#[65, 114, 103, 77, 97, 120]⟩, ⟨#[]⟩, iv, ⟨#[122]⟩, av⟩ (kaAt ⟨#[65, 114, 103, 77, 97, 120]⟩ 0 (-1)) ⟨#[120]⟩ rfl u T0 x xs wx (hl.more (grown_trans hg hx)) (two_in (hs.more hx) (has_i wx _ _) (has_i wx _ _) (by show 0 ≤ 1048576; omega) (by show 0 ≤ 1048576; omega) (hat.more hx)) (two_ok (has_i wx _ _) (has_i wx _ _) (by show -9223372036854775808 ≤ (0 : Int) ∧ (0 : Int) ≤ 9223372036854775807; omega) rng_m1 (hat.more hx)) (ka_check _ _) (ka_then _ _ _) (by show 1 ≤ 1048576; omega) hv'⟩

theorem node_max0 (t : Int) (x xs : List Int) (w : World) (hl : Laid w) : Calls Tryz.prog 10 #[.string ⟨#[82, 101, 100, 117, 99, 101, 77, 97, 120]⟩, .int .i64 (-1), .int .i64 0] w (NodeQ ⟨#[82, 101, 100, 117, 99, 101, 77, 97, 120]⟩ t x xs (maxR (kpAt ⟨#[82, 101, 100, 117, 99, 101, 77, 97, 120]⟩ 0 nilS [-1]) t x xs) w) := by
  refine (axis_list ⟨#[82, 101, 100, 117, 99, 101, 77, 97, 120]⟩ (by kernel_rfl) (-1) 0 w rng_m1).mono ?_
  rintro e w' ⟨iv, s, av, rfl, hg, hs, hi, hat⟩
  exact ⟨iv, av, rfl, hg, fun wx u T0 ht hx hv' => by
    rw [← ht, max_s _ _ s]
    exact max_do ⟨⟨#[82, 101, 100, 117, 99, 101, 77, 97, 120]⟩, ⟨#[]⟩, iv, ⟨#[122]⟩, av⟩ (kpAt ⟨#[82, 101, 100, 117, 99, 101, 77, 97, 120]⟩ 0 s [-1]) ⟨#[120]⟩ rfl u T0 x xs wx (hl.more (grown_trans hg hx)) (two_in (hs.more hx) (has_i wx _ _) (has_l (hi.more hx)) (by show 0 ≤ 1048576; omega) (by show 0 ≤ 1048576; omega) (hat.more hx)) (two_ok (has_i wx _ _) (has_l (hi.more hx)) (by show -9223372036854775808 ≤ (0 : Int) ∧ (0 : Int) ≤ 9223372036854775807; omega) (by show -9223372036854775808 ≤ (0 : Int) ∧ (0 : Int) ≤ 9223372036854775807; omega) (hat.more hx)) (kp_check2 _ _ _) (kp_then _ _ _ _) (by show 1 ≤ 1048576; omega) hv'⟩

set_option maxRecDepth 100000 in
set_option maxHeartbeats 16000000 in
theorem reducePoints_walk (X : Ten) {x xs : List Int} (w : World) (hl : Laid w) (hx : IsInts w X.dv.v x) (hxs : IsInts w X.tv.v xs) : Calls Tryz.prog 3 #[tval X] w fun e w' => e = .returned (.bool true) ∧ Below w.heap.size w w' := by
  have HL := hide hl
  have HX := hide hx
  have HXS := hide hxs
  obtain ⟨_, _, ex, -⟩ := hx.sl
  obtain ⟨_, _, eu, -⟩ := hxs.sl
  clear hl hx hxs
  obtain ⟨tx, ⟨xa, xn, xc⟩, ⟨ua, un, uc⟩⟩ := X
  simp only [Sl.v, Value.slice.injEq] at ex eu
  obtain ⟨-, rfl, -⟩ := ex
  obtain ⟨-, rfl, -⟩ := eu
  unfold tval
  simp only [Sl.v] at HX HXS ⊢
  obtain ⟨w0, hw0⟩ : ∃ w0, w0 = w.alloc (.cells #[.int .i64 tx, .slice xa x.length xc, .slice ua xs.length uc] 25) := ⟨_, rfl⟩
  obtain ⟨hbx, Z0⟩ := new_alloc (.cells #[.int .i64 tx, .slice xa x.length xc, .slice ua xs.length uc] 25) (x := w) rfl
  rw [← hw0] at hbx Z0
  have g0 : w.grownBy w0 none := by rw [hw0]; exact grown_new _ _
  have BX : Hid (∀ wx, w0.grownBy wx none → wx.heap[w.heap.size]? = some (.cells #[.int .i64 tx, .slice xa x.length xc, .slice ua xs.length uc] 25 (0, 0))) := fun wx hx => box_kept hbx hx
  have LV : Hid (∀ wx, w.grownBy wx none → Calls Tryz.prog 8 #[] wx fun e w' => e = .returned (.bool true) ∧ wx.grownBy w' none) := fun wx hx => live11_any wx (HL.out.more hx)
  obtain ⟨wS, hwS⟩ : ∃ wS, wS = w0.alloc (.cells #[.int .i64 tx, .slice xa x.length xc, .slice ua xs.length uc] 25) := ⟨_, rfl⟩
  obtain ⟨bS, -⟩ := new_alloc (.cells #[.int .i64 tx, .slice xa x.length xc, .slice ua xs.length uc] 25) Z0
  rw [← hwS] at bS
  have gS : w0.grownBy wS none := by rw [hwS]; exact grown_new _ _
  have GS := hide (grown_trans g0 gS)
  have GS0 := hide gS
  have SM := hide (small11_any ⟨some ⟨w.heap.size + 1, 0, none⟩, 1, 1⟩ _ wS (one_ten ⟨tx, ⟨xa, x.length, xc⟩, ⟨ua, xs.length, uc⟩⟩ bS (HX.out.more GS.out) (HXS.out.more GS.out)))
  simp only at SM
  obtain ⟨x0, x1, x2⟩ := ten_cells hbx
  rw [hw0] at x0 x1 x2
  have G0 := hide g0
  clear hbx bS Z0 g0 gS
  go_enter Tryz.func3, Tryz.ntmps3
  go_wp2_with fail
  rw [← hw0, ← hwS]
  clear hw0 hwS x0 x1 x2
  refine SM.out.mono ?_
  rintro e w1 ⟨bb, rfl, hg1⟩
  have G1 := hide (grown_trans GS.out hg1)
  have G01 := hide (grown_trans GS0.out hg1)
  have L1 := hide (LV.out w1 G1.out)
  obtain ⟨x0, x1, x2⟩ := ten_cells (BX.out w1 G01.out)
  clear hg1 SM
  cases bb with
  | false =>
    go_wp2_with fail
    refine L1.out.mono ?_
    rintro e w2 ⟨rfl, hg2⟩
    go_wp2
    go_ret
    exact ⟨rfl, grown_below (grown_trans G1.out hg2)⟩
  | true =>
    by_cases hx0 : x.length = 0
    · have e1 : ((x.length : Int) == 0) = true := by rw [hx0]; rfl
      clear hx0
      go_wp2_with fail
      refine L1.out.mono ?_
      rintro e u4 ⟨rfl, hg4⟩
      go_wp2
      go_ret
      exact ⟨rfl, grown_below (grown_trans G1.out hg4)⟩
    have e1 : ((x.length : Int) == 0) = false := by simpa using hx0
    have HX0 := hide hx0
    have hXl : xs.length ≤ 140737488351232 := by have := HXS.out.le; omega
    clear hx0
    go_wp2_with fail
    clear e1
    go_loopw [3] (fun i wr => wr = w1 ∧ ∃ k : Nat, k ≤ xs.length ∧ i = .int .i64 k ∧ ∀ c, c < k → ¬ (tx = 1 ∧ xs.getD c 0 = 2143289344)) (fun i _ => xs.length - (intOf i).toNat)
    case atStart => exact ⟨rfl, 0, Nat.zero_le _, rfl, fun c hc => by omega⟩
    case round =>
    obtain ⟨hwr, k, hk, rfl, hnn⟩ := hrel
    subst hwr
    have HNN := hide hnn
    clear hnn
    by_cases hlt : k < xs.length
    · obtain ⟨ub, uo, rfl, hcu⟩ := HXS.out.get hlt
      have q0 := cell_still (hcu k hlt) G1.out
      obtain ⟨z, hz⟩ : ∃ z, z = xs.getD k 0 := ⟨_, rfl⟩
      rw [← hz] at q0
      have HZ := hide hz
      have l1 : (k : Int) < (xs.length : Int) := by omega
      clear hcu hz
      by_cases ht1 : tx = 1
      · have t1 : (tx == 1) = true := by simpa using ht1
        by_cases hz1 : z = 2143289344
        · have z1 : (z == 2143289344) = true := by simpa using hz1
          clear ht1 hz1
          go_wp2_with fail
          refine L1.out.mono ?_
          rintro e u4 ⟨rfl, hg4⟩
          go_wp2
          go_ret
          exact ⟨rfl, grown_below (grown_trans G1.out hg4)⟩
        · have z1 : (z == 2143289344) = false := by simpa using hz1
          have NX : Hid (∀ c, c < k + 1 → ¬ (tx = 1 ∧ xs.getD c 0 = 2143289344)) := fun c hc => by
            by_cases e : c = k
            · rw [e, ← HZ.out]; exact fun h => hz1 h.2
            · exact HNN.out c (by omega)
          clear ht1 hz1
          go_wp2_with fail
          go_roundw
          case rel => exact ⟨by first | rfl | trivial, k + 1, by omega, by go_num, NX.out⟩
          case measure => simp [intOf]; omega
      · have t1 : (tx == 1) = false := by simpa using ht1
        have NX : Hid (∀ c, c < k + 1 → ¬ (tx = 1 ∧ xs.getD c 0 = 2143289344)) := fun c _ h => ht1 h.1
        clear ht1
        go_wp2_with fail
        go_roundw
        case rel => exact ⟨by first | rfl | trivial, k + 1, by omega, by go_num, NX.out⟩
        case measure => simp [intOf]; omega
    have hke : k = xs.length := by omega
    subst hke
    have NAN : Hid (∀ z ∈ xs, ¬ (tx = 1 ∧ z = 2143289344)) := fun z hz => by
      obtain ⟨c, hc, e⟩ := List.mem_iff_getElem.1 hz
      have := HNN.out c hc
      rw [show xs.getD c 0 = z from by simp [List.getD, hc, e]] at this
      exact this
    obtain ⟨ra, hra⟩ : ∃ r, r = argR (kaAt ⟨#[65, 114, 103, 77, 97, 120]⟩ 0 (-1)) tx x xs := ⟨_, rfl⟩
    obtain ⟨rb, hrb⟩ : ∃ r, r = maxR (kpAt ⟨#[82, 101, 100, 117, 99, 101, 77, 97, 120]⟩ 0 nilS [-1]) tx x xs := ⟨_, rfl⟩
    have HRA := hide hra
    have HRB := hide hrb
    have KA : Hid (∀ v, wr.grownBy v none → Calls Tryz.prog 10 #[.string ⟨#[65, 114, 103, 77, 97, 120]⟩, .int .i64 (-1), .int .i64 0] v (NodeQ ⟨#[65, 114, 103, 77, 97, 120]⟩ tx x xs ra v)) := fun v hv => by rw [hra]; exact node_arg0 tx x xs v (HL.out.more (grown_trans G1.out hv))
    have GR := hide G1.out
    clear hra hrb L1 HNN hlt hk
    go_upto_region 8 with fail
    go_cut [4, 5] from 42 to 49 (fun t5 t6 wx => wr.grownBy wx none ∧ ∃ (B : Nat) (dv tv : Sl), t5 = .pointer (some ⟨B, 0, none⟩) ∧ t6 = .int .i64 (rC ra) ∧ wr.heap.size ≤ B ∧ wx.heap[B]? = some (.cells #[.int .i64 (rTy ra), .slice dv.a dv.n dv.c, .slice tv.a tv.n tv.c] 25 (0, 0)) ∧ IsInts wx dv.v (rL ra) ∧ IsInts wx tv.v (rZ ra))
    case first =>
      refine wp_region_held_drew (S := fun w' => wr.grownBy w' none) (by kernel_rfl) (grown_drew (grown_refl _)) (fun _ => ?_)
      refine' with_node (N := ∀ (v : World) (ia : Option Addr) (il : Nat) (ic : Nat) (na : Option Addr) (nl : Nat) (nc : Nat) (b4 : Nat) (b9 : Nat), wr.grownBy v none → NodeD ⟨#[65, 114, 103, 77, 97, 120]⟩ tx x xs ra ⟨ia, il, ic⟩ ⟨na, nl, nc⟩ v → v.heap[b4]? = some (.cells #[.int .i64 tx, .slice xa x.length xc, .slice ua xs.length uc] 25 (0, 0)) → v.heap[b9]? = some (.cells #[.int .i64 0, .slice none 0 0, .slice none 0 0] 25 (0, 0)) → wr.heap.size ≤ b9 → (_ : World → Option Addr → Nat → Nat → Option Addr → Nat → Nat → Nat → Nat → Prop) v ia il ic na nl nc b4 b9) (fun N0_2_7 => ?_) ?_
      rotate_left 1
      refine' with_node (N := ∀ (v : World) (ia : Option Addr) (il : Nat) (ic : Nat) (na : Option Addr) (nl : Nat) (nc : Nat) (b4 : Nat), wr.grownBy v none → NodeD ⟨#[65, 114, 103, 77, 97, 120]⟩ tx x xs ra ⟨ia, il, ic⟩ ⟨na, nl, nc⟩ v → v.heap[b4]? = some (.cells #[.int .i64 tx, .slice xa x.length xc, .slice ua xs.length uc] 25 (0, 0)) → (_ : World → Option Addr → Nat → Nat → Option Addr → Nat → Nat → Nat → Prop) v ia il ic na nl nc b4) (fun N0_2 => ?_) ?_
      rotate_left 1
      refine' with_node (N := ∀ (v : World) (ia : Option Addr) (il : Nat) (ic : Nat) (na : Option Addr) (nl : Nat) (nc : Nat) (b9 : Nat), wr.grownBy v none → NodeD ⟨#[65, 114, 103, 77, 97, 120]⟩ tx x xs ra ⟨ia, il, ic⟩ ⟨na, nl, nc⟩ v → v.heap[b9]? = some (.cells #[.int .i64 0, .slice none 0 0, .slice none 0 0] 25 (0, 0)) → wr.heap.size ≤ b9 → (_ : World → Option Addr → Nat → Nat → Option Addr → Nat → Nat → Nat → Prop) v ia il ic na nl nc b9) (fun N0_7 => ?_) ?_
      rotate_left 1
      refine' with_node (N := ∀ (v : World) (b4 : Nat) (b9 : Nat), wr.grownBy v none → v.heap[b4]? = some (.cells #[.int .i64 tx, .slice xa x.length xc, .slice ua xs.length uc] 25 (0, 0)) → v.heap[b9]? = some (.cells #[.int .i64 0, .slice none 0 0, .slice none 0 0] 25 (0, 0)) → wr.heap.size ≤ b9 → (_ : World → Nat → Nat → Prop) v b4 b9) (fun N2_7 => ?_) ?_
      rotate_left 1
      refine' with_node (N := ∀ (v : World) (ia : Option Addr) (il : Nat) (ic : Nat) (na : Option Addr) (nl : Nat) (nc : Nat), wr.grownBy v none → NodeD ⟨#[65, 114, 103, 77, 97, 120]⟩ tx x xs ra ⟨ia, il, ic⟩ ⟨na, nl, nc⟩ v → (_ : World → Option Addr → Nat → Nat → Option Addr → Nat → Nat → Prop) v ia il ic na nl nc) (fun N0 => ?_) ?_
      rotate_left 1
      refine' with_node (N := ∀ (v : World) (b4 : Nat), wr.grownBy v none → v.heap[b4]? = some (.cells #[.int .i64 tx, .slice xa x.length xc, .slice ua xs.length uc] 25 (0, 0)) → (_ : World → Nat → Prop) v b4) (fun N2 => ?_) ?_
      rotate_left 1
      refine' with_node (N := ∀ (v : World) (b9 : Nat), wr.grownBy v none → v.heap[b9]? = some (.cells #[.int .i64 0, .slice none 0 0, .slice none 0 0] 25 (0, 0)) → wr.heap.size ≤ b9 → (_ : World → Nat → Prop) v b9) (fun N7 => ?_) ?_
      rotate_left 1
      · have g : wr.grownBy wr.drew none := grown_drew (grown_refl _)
        generalize hv : wr.drew = v at g ⊢
        clear hv
        refine wpAnyH_take (i := 1) (v := ?_) rfl (by kernel_rfl) (by kernel_rfl) (by kernel_rfl) (fun _ _ _ h => h) (Or.inl ⟨by kernel_rfl, ?_⟩) (by assumption) ?_
        rotate_left 1
        · (intro wS hSw; have c0 := cell_still x0 hSw; have c1 := cell_still x1 hSw; have c2 := cell_still x2 hSw; go_simp; (try with_reducible rfl))
        try simp only [Act.put]
        refine wpAnyH_ready (rs := [0, 2, 7]) (by kernel_rfl) (by simp) ?_
        refine AllReadyH.cons rfl (fun K hK => ?_) ?_
        · go_simp
          refine (KA.out v g).mono ?_
          rintro e u ⟨⟨ia, il, ic⟩, ⟨na, nl, nc⟩, rfl, gs, h2⟩
          replace h2 : NodeD ⟨#[65, 114, 103, 77, 97, 120]⟩ tx x xs ra ⟨ia, il, ic⟩ ⟨na, nl, nc⟩ u := h2
          simp only
          have gn := grown_trans g gs
          refine hK.out _ _ gn (fun hHeld => ?_)
          clear hK K
          try simp only [Act.put]
          clear g gs hHeld
          exact N0 u ia il ic na nl nc gn h2
        refine AllReadyH.cons rfl (fun K hK => ?_) ?_
        · go_simp
          have h4 := heap_alloc_new v (.cells #[.int .i64 tx, .slice xa x.length xc, .slice ua xs.length uc] 25)
          have gs := grown_new v (.cells #[.int .i64 tx, .slice xa x.length xc, .slice ua xs.length uc] 25)
          generalize hvn : v.alloc (.cells #[.int .i64 tx, .slice xa x.length xc, .slice ua xs.length uc] 25) = u at h4 gs ⊢
          clear hvn
          generalize v.heap.size = b4 at h4 ⊢
          have gn := grown_trans g gs
          refine hK.out _ _ gn (fun hHeld => ?_)
          clear hK K
          try simp only [Act.put]
          clear g gs hHeld
          exact N2 u b4 gn h4
        refine AllReadyH.cons rfl (fun K hK => ?_) ?_
        · have hb9 := g.size
          go_simp
          have h9 := heap_alloc_new v (.cells #[.int .i64 0, .slice none 0 0, .slice none 0 0] 25)
          have gs := grown_new v (.cells #[.int .i64 0, .slice none 0 0, .slice none 0 0] 25)
          generalize hvn : v.alloc (.cells #[.int .i64 0, .slice none 0 0, .slice none 0 0] 25) = u at h9 gs ⊢
          clear hvn
          generalize v.heap.size = b9 at h9 hb9 ⊢
          have gn := grown_trans g gs
          refine hK.out _ _ gn (fun hHeld => ?_)
          clear hK K
          try simp only [Act.put]
          clear g gs hHeld
          exact N7 u b9 gn h9 hb9
        exact AllReadyH.nil
      · intro v b9 g h9 hb9
        refine wpAnyH_ready (rs := [0, 2]) (by kernel_rfl) (by simp) ?_
        refine AllReadyH.cons rfl (fun K hK => ?_) ?_
        · go_simp
          refine (KA.out v g).mono ?_
          rintro e u ⟨⟨ia, il, ic⟩, ⟨na, nl, nc⟩, rfl, gs, h2⟩
          replace h2 : NodeD ⟨#[65, 114, 103, 77, 97, 120]⟩ tx x xs ra ⟨ia, il, ic⟩ ⟨na, nl, nc⟩ u := h2
          simp only
          have gn := grown_trans g gs
          refine hK.out _ _ gn (fun hHeld => ?_)
          clear hK K
          try simp only [Act.put]
          have h9 := box_kept h9 gs
          clear g gs hHeld
          exact N0_7 u ia il ic na nl nc b9 gn h2 h9 hb9
        refine AllReadyH.cons rfl (fun K hK => ?_) ?_
        · go_simp
          have h4 := heap_alloc_new v (.cells #[.int .i64 tx, .slice xa x.length xc, .slice ua xs.length uc] 25)
          have gs := grown_new v (.cells #[.int .i64 tx, .slice xa x.length xc, .slice ua xs.length uc] 25)
          generalize hvn : v.alloc (.cells #[.int .i64 tx, .slice xa x.length xc, .slice ua xs.length uc] 25) = u at h4 gs ⊢
          clear hvn
          generalize v.heap.size = b4 at h4 ⊢
          have gn := grown_trans g gs
          refine hK.out _ _ gn (fun hHeld => ?_)
          clear hK K
          try simp only [Act.put]
          have h9 := box_kept h9 gs
          clear g gs hHeld
          exact N2_7 u b4 b9 gn h4 h9 hb9
        exact AllReadyH.nil
      · intro v b4 g h4
        refine wpAnyH_ready (rs := [0, 7]) (by kernel_rfl) (by simp) ?_
        refine AllReadyH.cons rfl (fun K hK => ?_) ?_
        · go_simp
          refine (KA.out v g).mono ?_
          rintro e u ⟨⟨ia, il, ic⟩, ⟨na, nl, nc⟩, rfl, gs, h2⟩
          replace h2 : NodeD ⟨#[65, 114, 103, 77, 97, 120]⟩ tx x xs ra ⟨ia, il, ic⟩ ⟨na, nl, nc⟩ u := h2
          simp only
          have gn := grown_trans g gs
          refine hK.out _ _ gn (fun hHeld => ?_)
          clear hK K
          try simp only [Act.put]
          have h4 := box_kept h4 gs
          clear g gs hHeld
          exact N0_2 u ia il ic na nl nc b4 gn h2 h4
        refine AllReadyH.cons rfl (fun K hK => ?_) ?_
        · have hb9 := g.size
          go_simp
          have h9 := heap_alloc_new v (.cells #[.int .i64 0, .slice none 0 0, .slice none 0 0] 25)
          have gs := grown_new v (.cells #[.int .i64 0, .slice none 0 0, .slice none 0 0] 25)
          generalize hvn : v.alloc (.cells #[.int .i64 0, .slice none 0 0, .slice none 0 0] 25) = u at h9 gs ⊢
          clear hvn
          generalize v.heap.size = b9 at h9 hb9 ⊢
          have gn := grown_trans g gs
          refine hK.out _ _ gn (fun hHeld => ?_)
          clear hK K
          try simp only [Act.put]
          have h4 := box_kept h4 gs
          clear g gs hHeld
          refine cast ?_ (N2_7 u b4 b9 gn h4 h9 hb9)
          kernel_rfl
        exact AllReadyH.nil
      · intro v ia il ic na nl nc g h2
        refine wpAnyH_ready (rs := [2, 7]) (by kernel_rfl) (by simp) ?_
        refine AllReadyH.cons rfl (fun K hK => ?_) ?_
        · go_simp
          have h4 := heap_alloc_new v (.cells #[.int .i64 tx, .slice xa x.length xc, .slice ua xs.length uc] 25)
          have gs := grown_new v (.cells #[.int .i64 tx, .slice xa x.length xc, .slice ua xs.length uc] 25)
          generalize hvn : v.alloc (.cells #[.int .i64 tx, .slice xa x.length xc, .slice ua xs.length uc] 25) = u at h4 gs ⊢
          clear hvn
          generalize v.heap.size = b4 at h4 ⊢
          have gn := grown_trans g gs
          refine hK.out _ _ gn (fun hHeld => ?_)
          clear hK K
          try simp only [Act.put]
          have h2 := h2.more gs
          clear g gs hHeld
          refine cast ?_ (N0_2 u ia il ic na nl nc b4 gn h2 h4)
          kernel_rfl
        refine AllReadyH.cons rfl (fun K hK => ?_) ?_
        · have hb9 := g.size
          go_simp
          have h9 := heap_alloc_new v (.cells #[.int .i64 0, .slice none 0 0, .slice none 0 0] 25)
          have gs := grown_new v (.cells #[.int .i64 0, .slice none 0 0, .slice none 0 0] 25)
          generalize hvn : v.alloc (.cells #[.int .i64 0, .slice none 0 0, .slice none 0 0] 25) = u at h9 gs ⊢
          clear hvn
          generalize v.heap.size = b9 at h9 hb9 ⊢
          have gn := grown_trans g gs
          refine hK.out _ _ gn (fun hHeld => ?_)
          clear hK K
          try simp only [Act.put]
          have h2 := h2.more gs
          clear g gs hHeld
          refine cast ?_ (N0_7 u ia il ic na nl nc b9 gn h2 h9 hb9)
          kernel_rfl
        exact AllReadyH.nil
      · intro v b4 b9 g h4 h9 hb9
        refine wpAnyH_ready (rs := [0]) (by kernel_rfl) (by simp) ?_
        refine AllReadyH.cons rfl (fun K hK => ?_) ?_
        · go_simp
          refine (KA.out v g).mono ?_
          rintro e u ⟨⟨ia, il, ic⟩, ⟨na, nl, nc⟩, rfl, gs, h2⟩
          replace h2 : NodeD ⟨#[65, 114, 103, 77, 97, 120]⟩ tx x xs ra ⟨ia, il, ic⟩ ⟨na, nl, nc⟩ u := h2
          simp only
          have gn := grown_trans g gs
          refine hK.out _ _ gn (fun hHeld => ?_)
          clear hK K
          try simp only [Act.put]
          have h4 := box_kept h4 gs
          have h9 := box_kept h9 gs
          clear g gs hHeld
          exact N0_2_7 u ia il ic na nl nc b4 b9 gn h2 h4 h9 hb9
        exact AllReadyH.nil
      · intro v ia il ic na nl nc b9 g h2 h9 hb9
        refine wpAnyH_ready (rs := [2]) (by kernel_rfl) (by simp) ?_
        refine AllReadyH.cons rfl (fun K hK => ?_) ?_
        · go_simp
          have h4 := heap_alloc_new v (.cells #[.int .i64 tx, .slice xa x.length xc, .slice ua xs.length uc] 25)
          have gs := grown_new v (.cells #[.int .i64 tx, .slice xa x.length xc, .slice ua xs.length uc] 25)
          generalize hvn : v.alloc (.cells #[.int .i64 tx, .slice xa x.length xc, .slice ua xs.length uc] 25) = u at h4 gs ⊢
          clear hvn
          generalize v.heap.size = b4 at h4 ⊢
          have gn := grown_trans g gs
          refine hK.out _ _ gn (fun hHeld => ?_)
          clear hK K
          try simp only [Act.put]
          have h2 := h2.more gs
          have h9 := box_kept h9 gs
          clear g gs hHeld
          refine cast ?_ (N0_2_7 u ia il ic na nl nc b4 b9 gn h2 h4 h9 hb9)
          kernel_rfl
        exact AllReadyH.nil
      · intro v ia il ic na nl nc b4 g h2 h4
        refine wpAnyH_ready (rs := [3, 7]) (by kernel_rfl) (by simp) ?_
        refine AllReadyH.cons rfl (fun K hK => ?_) ?_
        · go_simp
          refine (h2 v ⟨some ⟨b4, 0, none⟩, 1, 1⟩ ⟨tx, ⟨xa, x.length, xc⟩, ⟨ua, xs.length, uc⟩⟩ rfl (grown_refl _) (one_ten _ h4 (HX.out.more (grown_trans GR.out g)) (HXS.out.more (grown_trans GR.out g)))).mono ?_
          intro e u hq
          obtain ⟨hgd, ⟨ma, mn, mc⟩, ⟨md, mm, mk⟩, rfl, hla⟩ := do_pastR hq
          have gn := grown_trans g hgd
          refine hK.out _ _ gn (fun hHeld => ?_)
          clear hK K
          try simp only
          skip
          refine wpAnyH_take (i := 4) (v := ?_) rfl (by kernel_rfl) (by kernel_rfl) (by kernel_rfl) (fun _ _ _ h => h) (Or.inl ⟨by kernel_rfl, ?_⟩) (by assumption) ?_
          rotate_left 1
          · (intro wS hSw; go_simp; (try with_reducible rfl))
          try simp only [Act.put]
          refine wpAnyH_take (i := 5) (v := ?_) rfl (by kernel_rfl) (by kernel_rfl) (by kernel_rfl) (fun _ _ _ h => h) (Or.inl ⟨by kernel_rfl, ?_⟩) (by assumption) ?_
          rotate_left 1
          · (intro wS hSw; go_simp; (try with_reducible rfl))
          try simp only [Act.put]
          refine wpAnyH_take (i := 6) (v := ?_) rfl (by kernel_rfl) (by kernel_rfl) (by kernel_rfl) (fun _ _ _ h => h) (Or.inl ⟨by kernel_rfl, ?_⟩) (by assumption) ?_
          rotate_left 1
          · (intro wS hSw; go_simp; (try with_reducible rfl))
          try simp only [Act.put]
          refine wpAnyH_ready (rs := [7]) (by kernel_rfl) (by simp) ?_
          refine AllReadyH.cons rfl (fun K hK => ?_) AllReadyH.nil
          go_simp
          have kB := heap_alloc_new u (.cells #[.int .i64 0, .slice none 0 0, .slice none 0 0] 25)
          have gs := grown_new u (.cells #[.int .i64 0, .slice none 0 0, .slice none 0 0] 25)
          have hb9 := gn.size
          have LB : Hid (∀ wx, u.grownBy wx none → IsInts wx (.slice ma mn mc) (rL ra) ∧ IsInts wx (.slice md mm mk) (rZ ra)) := fun wx hx => hla v.heap.size.pred wx (Nat.pred_lt (by have := (Array.getElem?_eq_some_iff.1 h4).1; omega)) ⟨hx.1, hx.2, hx.3, hx.4, fun i hi _ => hx.5 i hi (by simp)⟩
          have gn2 := grown_trans gn gs
          refine hK.out _ _ gn2 (fun hHeld => ?_)
          clear hK K
          try simp only [Act.put]
          generalize hvn : u.alloc (.cells #[.int .i64 0, .slice none 0 0, .slice none 0 0] 25) = y at kB gs gn2 hHeld ⊢
          clear hvn
          obtain ⟨b9, hb⟩ : ∃ b, b = u.heap.size := ⟨_, rfl⟩
          have LC : Hid (∀ wx, y.grownBy wx (some b9) → IsInts wx (.slice ma mn mc) (rL ra) ∧ IsInts wx (.slice md mm mk) (rZ ra)) := fun wx hx => LB.out wx (grown_drop gs hx (by rw [hb]; exact Nat.le_refl _))
          rw [← hb] at kB hb9 ⊢
          clear hb LB gs
          replace LB := LC
          replace gn := gn2
          clear LC gn2
          obtain ⟨k0, k1, k2⟩ := ten_cells kB
          obtain ⟨f0, f1, f2⟩ := ten_frozen kB
          obtain ⟨st, sg⟩ := store3t (.int .i64 (rTy ra)) (.slice ma mn mc) (.slice md mm mk) kB
          refine wpAnyH_ready (rs := [8]) (by kernel_rfl) (by simp) ?_
          refine AllReadyH.cons rfl (fun K hK => ?_) AllReadyH.nil
          go_simp
          have gz := grown_drop gn sg hb9
          refine hK.out _ _ gz (fun hHeld => ?_)
          clear hK K
          try simp only [Act.put]
          refine wpAnyH_take (i := 9) (v := ?_) rfl (by kernel_rfl) (by kernel_rfl) (by kernel_rfl) (fun _ _ _ h => h) (Or.inl ⟨by kernel_rfl, ?_⟩) (by assumption) ?_
          rotate_left 1
          · (intro wS hSw; go_simp; (try with_reducible rfl))
          try simp only [Act.put]
          refine wpAnyH_done (by kernel_rfl) ?_ _
          have RE := LB.out _ sg
          clear h2 h4 hq hla kB k0 k1 k2 f0 f1 f2 g gn hHeld
          go_simp
          go_wp2_with fail
          go_meet
          exact ⟨gz, b9, ⟨ma, mn, mc⟩, ⟨md, mm, mk⟩, rfl, rfl, hb9, st, RE.1, RE.2⟩
        refine AllReadyH.cons rfl (fun K hK => ?_) ?_
        · have hb9 := g.size
          go_simp
          have h9 := heap_alloc_new v (.cells #[.int .i64 0, .slice none 0 0, .slice none 0 0] 25)
          have gs := grown_new v (.cells #[.int .i64 0, .slice none 0 0, .slice none 0 0] 25)
          generalize hvn : v.alloc (.cells #[.int .i64 0, .slice none 0 0, .slice none 0 0] 25) = u at h9 gs ⊢
          clear hvn
          generalize v.heap.size = b9 at h9 hb9 ⊢
          have gn := grown_trans g gs
          refine hK.out _ _ gn (fun hHeld => ?_)
          clear hK K
          try simp only [Act.put]
          have h2 := h2.more gs
          have h4 := box_kept h4 gs
          clear g gs hHeld
          refine cast ?_ (N0_2_7 u ia il ic na nl nc b4 b9 gn h2 h4 h9 hb9)
          kernel_rfl
        exact AllReadyH.nil
      · intro v ia il ic na nl nc b4 b9 g h2 h4 h9 hb9
        refine wpAnyH_ready (rs := [3]) (by kernel_rfl) (by simp) ?_
        refine AllReadyH.cons rfl (fun K hK => ?_) ?_
        · go_simp
          refine (h2 v ⟨some ⟨b4, 0, none⟩, 1, 1⟩ ⟨tx, ⟨xa, x.length, xc⟩, ⟨ua, xs.length, uc⟩⟩ rfl (grown_refl _) (one_ten _ h4 (HX.out.more (grown_trans GR.out g)) (HXS.out.more (grown_trans GR.out g)))).mono ?_
          intro e u hq
          obtain ⟨hgd, ⟨ma, mn, mc⟩, ⟨md, mm, mk⟩, rfl, hla⟩ := do_pastR hq
          have gn := grown_trans g hgd
          refine hK.out _ _ gn (fun hHeld => ?_)
          clear hK K
          try simp only
          have kB := box_kept h9 hgd
          have LB : Hid (∀ wx, u.grownBy wx (some b9) → IsInts wx (.slice ma mn mc) (rL ra) ∧ IsInts wx (.slice md mm mk) (rZ ra)) := fun wx hx => hla b9 wx (Array.getElem?_eq_some_iff.1 h9).1 hx
          refine wpAnyH_take (i := 4) (v := ?_) rfl (by kernel_rfl) (by kernel_rfl) (by kernel_rfl) (fun _ _ _ h => h) (Or.inl ⟨by kernel_rfl, ?_⟩) (by assumption) ?_
          rotate_left 1
          · (intro wS hSw; go_simp; (try with_reducible rfl))
          try simp only [Act.put]
          refine wpAnyH_take (i := 5) (v := ?_) rfl (by kernel_rfl) (by kernel_rfl) (by kernel_rfl) (fun _ _ _ h => h) (Or.inl ⟨by kernel_rfl, ?_⟩) (by assumption) ?_
          rotate_left 1
          · (intro wS hSw; go_simp; (try with_reducible rfl))
          try simp only [Act.put]
          refine wpAnyH_take (i := 6) (v := ?_) rfl (by kernel_rfl) (by kernel_rfl) (by kernel_rfl) (fun _ _ _ h => h) (Or.inl ⟨by kernel_rfl, ?_⟩) (by assumption) ?_
          rotate_left 1
          · (intro wS hSw; go_simp; (try with_reducible rfl))
          try simp only [Act.put]
          obtain ⟨k0, k1, k2⟩ := ten_cells kB
          obtain ⟨f0, f1, f2⟩ := ten_frozen kB
          obtain ⟨st, sg⟩ := store3t (.int .i64 (rTy ra)) (.slice ma mn mc) (.slice md mm mk) kB
          refine wpAnyH_ready (rs := [8]) (by kernel_rfl) (by simp) ?_
          refine AllReadyH.cons rfl (fun K hK => ?_) AllReadyH.nil
          go_simp
          have gz := grown_drop gn sg hb9
          refine hK.out _ _ gz (fun hHeld => ?_)
          clear hK K
          try simp only [Act.put]
          refine wpAnyH_take (i := 9) (v := ?_) rfl (by kernel_rfl) (by kernel_rfl) (by kernel_rfl) (fun _ _ _ h => h) (Or.inl ⟨by kernel_rfl, ?_⟩) (by assumption) ?_
          rotate_left 1
          · (intro wS hSw; go_simp; (try with_reducible rfl))
          try simp only [Act.put]
          refine wpAnyH_done (by kernel_rfl) ?_ _
          have RE := LB.out _ sg
          clear h2 h4 h9 hq hla kB k0 k1 k2 f0 f1 f2 g gn hHeld
          go_simp
          go_wp2_with fail
          go_meet
          exact ⟨gz, b9, ⟨ma, mn, mc⟩, ⟨md, mm, mk⟩, rfl, rfl, hb9, st, RE.1, RE.2⟩
        exact AllReadyH.nil
    case rest =>
    obtain ⟨hgc, B1, ⟨aa, an, ac⟩, ⟨ad, am, ak⟩, rfl, rfl, hB0, hb0, ia, ja⟩ := hcut
    obtain ⟨wA, ewA⟩ : ∃ z, z = wc := ⟨_, rfl⟩
    subst ewA
    simp only [Sl.v] at hb0 ia ja
    replace GR := hide (grown_trans G1.out hgc)
    have GA0 := hide (grown_trans G01.out hgc)
    have HB1 := hide hb0
    have JA := hide ja
    have KB : Hid (∀ v, wA.grownBy v none → Calls Tryz.prog 10 #[.string ⟨#[82, 101, 100, 117, 99, 101, 77, 97, 120]⟩, .int .i64 (-1), .int .i64 0] v (NodeQ ⟨#[82, 101, 100, 117, 99, 101, 77, 97, 120]⟩ tx x xs rb v)) := fun v hv => by rw [HRB.out]; exact node_max0 tx x xs v (HL.out.more (grown_trans GR.out hv))
    obtain ⟨x0, x1, x2⟩ := ten_cells (BX.out wA GA0.out)
    clear hgc hB0 hb0 ia ja KA
    go_upto_region 9 with fail
    go_cut [6, 7] from 49 to 56 (fun t5 t6 wx => wA.grownBy wx none ∧ ∃ (B : Nat) (dv tv : Sl), t5 = .pointer (some ⟨B, 0, none⟩) ∧ t6 = .int .i64 (rC rb) ∧ wA.heap.size ≤ B ∧ wx.heap[B]? = some (.cells #[.int .i64 (rTy rb), .slice dv.a dv.n dv.c, .slice tv.a tv.n tv.c] 25 (0, 0)) ∧ IsInts wx dv.v (rL rb) ∧ IsInts wx tv.v (rZ rb))
    case first =>
      refine wp_region_held_drew (S := fun w' => wA.grownBy w' none) (by kernel_rfl) (grown_drew (grown_refl _)) (fun _ => ?_)
      refine' with_node (N := ∀ (v : World) (ia : Option Addr) (il : Nat) (ic : Nat) (na : Option Addr) (nl : Nat) (nc : Nat) (b4 : Nat) (b9 : Nat), wA.grownBy v none → NodeD ⟨#[82, 101, 100, 117, 99, 101, 77, 97, 120]⟩ tx x xs rb ⟨ia, il, ic⟩ ⟨na, nl, nc⟩ v → v.heap[b4]? = some (.cells #[.int .i64 tx, .slice xa x.length xc, .slice ua xs.length uc] 25 (0, 0)) → v.heap[b9]? = some (.cells #[.int .i64 0, .slice none 0 0, .slice none 0 0] 25 (0, 0)) → wA.heap.size ≤ b9 → (_ : World → Option Addr → Nat → Nat → Option Addr → Nat → Nat → Nat → Nat → Prop) v ia il ic na nl nc b4 b9) (fun N0_2_7 => ?_) ?_
      rotate_left 1
      refine' with_node (N := ∀ (v : World) (ia : Option Addr) (il : Nat) (ic : Nat) (na : Option Addr) (nl : Nat) (nc : Nat) (b4 : Nat), wA.grownBy v none → NodeD ⟨#[82, 101, 100, 117, 99, 101, 77, 97, 120]⟩ tx x xs rb ⟨ia, il, ic⟩ ⟨na, nl, nc⟩ v → v.heap[b4]? = some (.cells #[.int .i64 tx, .slice xa x.length xc, .slice ua xs.length uc] 25 (0, 0)) → (_ : World → Option Addr → Nat → Nat → Option Addr → Nat → Nat → Nat → Prop) v ia il ic na nl nc b4) (fun N0_2 => ?_) ?_
      rotate_left 1
      refine' with_node (N := ∀ (v : World) (ia : Option Addr) (il : Nat) (ic : Nat) (na : Option Addr) (nl : Nat) (nc : Nat) (b9 : Nat), wA.grownBy v none → NodeD ⟨#[82, 101, 100, 117, 99, 101, 77, 97, 120]⟩ tx x xs rb ⟨ia, il, ic⟩ ⟨na, nl, nc⟩ v → v.heap[b9]? = some (.cells #[.int .i64 0, .slice none 0 0, .slice none 0 0] 25 (0, 0)) → wA.heap.size ≤ b9 → (_ : World → Option Addr → Nat → Nat → Option Addr → Nat → Nat → Nat → Prop) v ia il ic na nl nc b9) (fun N0_7 => ?_) ?_
      rotate_left 1
      refine' with_node (N := ∀ (v : World) (b4 : Nat) (b9 : Nat), wA.grownBy v none → v.heap[b4]? = some (.cells #[.int .i64 tx, .slice xa x.length xc, .slice ua xs.length uc] 25 (0, 0)) → v.heap[b9]? = some (.cells #[.int .i64 0, .slice none 0 0, .slice none 0 0] 25 (0, 0)) → wA.heap.size ≤ b9 → (_ : World → Nat → Nat → Prop) v b4 b9) (fun N2_7 => ?_) ?_
      rotate_left 1
      refine' with_node (N := ∀ (v : World) (ia : Option Addr) (il : Nat) (ic : Nat) (na : Option Addr) (nl : Nat) (nc : Nat), wA.grownBy v none → NodeD ⟨#[82, 101, 100, 117, 99, 101, 77, 97, 120]⟩ tx x xs rb ⟨ia, il, ic⟩ ⟨na, nl, nc⟩ v → (_ : World → Option Addr → Nat → Nat → Option Addr → Nat → Nat → Prop) v ia il ic na nl nc) (fun N0 => ?_) ?_
      rotate_left 1
      refine' with_node (N := ∀ (v : World) (b4 : Nat), wA.grownBy v none → v.heap[b4]? = some (.cells #[.int .i64 tx, .slice xa x.length xc, .slice ua xs.length uc] 25 (0, 0)) → (_ : World → Nat → Prop) v b4) (fun N2 => ?_) ?_
      rotate_left 1
      refine' with_node (N := ∀ (v : World) (b9 : Nat), wA.grownBy v none → v.heap[b9]? = some (.cells #[.int .i64 0, .slice none 0 0, .slice none 0 0] 25 (0, 0)) → wA.heap.size ≤ b9 → (_ : World → Nat → Prop) v b9) (fun N7 => ?_) ?_
      rotate_left 1
      · have g : wA.grownBy wA.drew none := grown_drew (grown_refl _)
        generalize hv : wA.drew = v at g ⊢
        clear hv
        refine wpAnyH_take (i := 1) (v := ?_) rfl (by kernel_rfl) (by kernel_rfl) (by kernel_rfl) (fun _ _ _ h => h) (Or.inl ⟨by kernel_rfl, ?_⟩) (by assumption) ?_
        rotate_left 1
        · (intro wS hSw; have c0 := cell_still x0 hSw; have c1 := cell_still x1 hSw; have c2 := cell_still x2 hSw; go_simp; (try with_reducible rfl))
        try simp only [Act.put]
        refine wpAnyH_ready (rs := [0, 2, 7]) (by kernel_rfl) (by simp) ?_
        refine AllReadyH.cons rfl (fun K hK => ?_) ?_
        · go_simp
          refine (KB.out v g).mono ?_
          rintro e u ⟨⟨ia, il, ic⟩, ⟨na, nl, nc⟩, rfl, gs, h2⟩
          replace h2 : NodeD ⟨#[82, 101, 100, 117, 99, 101, 77, 97, 120]⟩ tx x xs rb ⟨ia, il, ic⟩ ⟨na, nl, nc⟩ u := h2
          simp only
          have gn := grown_trans g gs
          refine hK.out _ _ gn (fun hHeld => ?_)
          clear hK K
          try simp only [Act.put]
          clear g gs hHeld
          exact N0 u ia il ic na nl nc gn h2
        refine AllReadyH.cons rfl (fun K hK => ?_) ?_
        · go_simp
          have h4 := heap_alloc_new v (.cells #[.int .i64 tx, .slice xa x.length xc, .slice ua xs.length uc] 25)
          have gs := grown_new v (.cells #[.int .i64 tx, .slice xa x.length xc, .slice ua xs.length uc] 25)
          generalize hvn : v.alloc (.cells #[.int .i64 tx, .slice xa x.length xc, .slice ua xs.length uc] 25) = u at h4 gs ⊢
          clear hvn
          generalize v.heap.size = b4 at h4 ⊢
          have gn := grown_trans g gs
          refine hK.out _ _ gn (fun hHeld => ?_)
          clear hK K
          try simp only [Act.put]
          clear g gs hHeld
          exact N2 u b4 gn h4
        refine AllReadyH.cons rfl (fun K hK => ?_) ?_
        · have hb9 := g.size
          go_simp
          have h9 := heap_alloc_new v (.cells #[.int .i64 0, .slice none 0 0, .slice none 0 0] 25)
          have gs := grown_new v (.cells #[.int .i64 0, .slice none 0 0, .slice none 0 0] 25)
          generalize hvn : v.alloc (.cells #[.int .i64 0, .slice none 0 0, .slice none 0 0] 25) = u at h9 gs ⊢
          clear hvn
          generalize v.heap.size = b9 at h9 hb9 ⊢
          have gn := grown_trans g gs
          refine hK.out _ _ gn (fun hHeld => ?_)
          clear hK K
          try simp only [Act.put]
          clear g gs hHeld
          exact N7 u b9 gn h9 hb9
        exact AllReadyH.nil
      · intro v b9 g h9 hb9
        refine wpAnyH_ready (rs := [0, 2]) (by kernel_rfl) (by simp) ?_
        refine AllReadyH.cons rfl (fun K hK => ?_) ?_
        · go_simp
          refine (KB.out v g).mono ?_
          rintro e u ⟨⟨ia, il, ic⟩, ⟨na, nl, nc⟩, rfl, gs, h2⟩
          replace h2 : NodeD ⟨#[82, 101, 100, 117, 99, 101, 77, 97, 120]⟩ tx x xs rb ⟨ia, il, ic⟩ ⟨na, nl, nc⟩ u := h2
          simp only
          have gn := grown_trans g gs
          refine hK.out _ _ gn (fun hHeld => ?_)
          clear hK K
          try simp only [Act.put]
          have h9 := box_kept h9 gs
          clear g gs hHeld
          exact N0_7 u ia il ic na nl nc b9 gn h2 h9 hb9
        refine AllReadyH.cons rfl (fun K hK => ?_) ?_
        · go_simp
          have h4 := heap_alloc_new v (.cells #[.int .i64 tx, .slice xa x.length xc, .slice ua xs.length uc] 25)
          have gs := grown_new v (.cells #[.int .i64 tx, .slice xa x.length xc, .slice ua xs.length uc] 25)
          generalize hvn : v.alloc (.cells #[.int .i64 tx, .slice xa x.length xc, .slice ua xs.length uc] 25) = u at h4 gs ⊢
          clear hvn
          generalize v.heap.size = b4 at h4 ⊢
          have gn := grown_trans g gs
          refine hK.out _ _ gn (fun hHeld => ?_)
          clear hK K
          try simp only [Act.put]
          have h9 := box_kept h9 gs
          clear g gs hHeld
          exact N2_7 u b4 b9 gn h4 h9 hb9
        exact AllReadyH.nil
      · intro v b4 g h4
        refine wpAnyH_ready (rs := [0, 7]) (by kernel_rfl) (by simp) ?_
        refine AllReadyH.cons rfl (fun K hK => ?_) ?_
        · go_simp
          refine (KB.out v g).mono ?_
          rintro e u ⟨⟨ia, il, ic⟩, ⟨na, nl, nc⟩, rfl, gs, h2⟩
          replace h2 : NodeD ⟨#[82, 101, 100, 117, 99, 101, 77, 97, 120]⟩ tx x xs rb ⟨ia, il, ic⟩ ⟨na, nl, nc⟩ u := h2
          simp only
          have gn := grown_trans g gs
          refine hK.out _ _ gn (fun hHeld => ?_)
          clear hK K
          try simp only [Act.put]
          have h4 := box_kept h4 gs
          clear g gs hHeld
          exact N0_2 u ia il ic na nl nc b4 gn h2 h4
        refine AllReadyH.cons rfl (fun K hK => ?_) ?_
        · have hb9 := g.size
          go_simp
          have h9 := heap_alloc_new v (.cells #[.int .i64 0, .slice none 0 0, .slice none 0 0] 25)
          have gs := grown_new v (.cells #[.int .i64 0, .slice none 0 0, .slice none 0 0] 25)
          generalize hvn : v.alloc (.cells #[.int .i64 0, .slice none 0 0, .slice none 0 0] 25) = u at h9 gs ⊢
          clear hvn
          generalize v.heap.size = b9 at h9 hb9 ⊢
          have gn := grown_trans g gs
          refine hK.out _ _ gn (fun hHeld => ?_)
          clear hK K
          try simp only [Act.put]
          have h4 := box_kept h4 gs
          clear g gs hHeld
          refine cast ?_ (N2_7 u b4 b9 gn h4 h9 hb9)
          kernel_rfl
        exact AllReadyH.nil
      · intro v ia il ic na nl nc g h2
        refine wpAnyH_ready (rs := [2, 7]) (by kernel_rfl) (by simp) ?_
        refine AllReadyH.cons rfl (fun K hK => ?_) ?_
        · go_simp
          have h4 := heap_alloc_new v (.cells #[.int .i64 tx, .slice xa x.length xc, .slice ua xs.length uc] 25)
          have gs := grown_new v (.cells #[.int .i64 tx, .slice xa x.length xc, .slice ua xs.length uc] 25)
          generalize hvn : v.alloc (.cells #[.int .i64 tx, .slice xa x.length xc, .slice ua xs.length uc] 25) = u at h4 gs ⊢
          clear hvn
          generalize v.heap.size = b4 at h4 ⊢
          have gn := grown_trans g gs
          refine hK.out _ _ gn (fun hHeld => ?_)
          clear hK K
          try simp only [Act.put]
          have h2 := h2.more gs
          clear g gs hHeld
          refine cast ?_ (N0_2 u ia il ic na nl nc b4 gn h2 h4)
          kernel_rfl
        refine AllReadyH.cons rfl (fun K hK => ?_) ?_
        · have hb9 := g.size
          go_simp
          have h9 := heap_alloc_new v (.cells #[.int .i64 0, .slice none 0 0, .slice none 0 0] 25)
          have gs := grown_new v (.cells #[.int .i64 0, .slice none 0 0, .slice none 0 0] 25)
          generalize hvn : v.alloc (.cells #[.int .i64 0, .slice none 0 0, .slice none 0 0] 25) = u at h9 gs ⊢
          clear hvn
          generalize v.heap.size = b9 at h9 hb9 ⊢
          have gn := grown_trans g gs
          refine hK.out _ _ gn (fun hHeld => ?_)
          clear hK K
          try simp only [Act.put]
          have h2 := h2.more gs
          clear g gs hHeld
          refine cast ?_ (N0_7 u ia il ic na nl nc b9 gn h2 h9 hb9)
          kernel_rfl
        exact AllReadyH.nil
      · intro v b4 b9 g h4 h9 hb9
        refine wpAnyH_ready (rs := [0]) (by kernel_rfl) (by simp) ?_
        refine AllReadyH.cons rfl (fun K hK => ?_) ?_
        · go_simp
          refine (KB.out v g).mono ?_
          rintro e u ⟨⟨ia, il, ic⟩, ⟨na, nl, nc⟩, rfl, gs, h2⟩
          replace h2 : NodeD ⟨#[82, 101, 100, 117, 99, 101, 77, 97, 120]⟩ tx x xs rb ⟨ia, il, ic⟩ ⟨na, nl, nc⟩ u := h2
          simp only
          have gn := grown_trans g gs
          refine hK.out _ _ gn (fun hHeld => ?_)
          clear hK K
          try simp only [Act.put]
          have h4 := box_kept h4 gs
          have h9 := box_kept h9 gs
          clear g gs hHeld
          exact N0_2_7 u ia il ic na nl nc b4 b9 gn h2 h4 h9 hb9
        exact AllReadyH.nil
      · intro v ia il ic na nl nc b9 g h2 h9 hb9
        refine wpAnyH_ready (rs := [2]) (by kernel_rfl) (by simp) ?_
        refine AllReadyH.cons rfl (fun K hK => ?_) ?_
        · go_simp
          have h4 := heap_alloc_new v (.cells #[.int .i64 tx, .slice xa x.length xc, .slice ua xs.length uc] 25)
          have gs := grown_new v (.cells #[.int .i64 tx, .slice xa x.length xc, .slice ua xs.length uc] 25)
          generalize hvn : v.alloc (.cells #[.int .i64 tx, .slice xa x.length xc, .slice ua xs.length uc] 25) = u at h4 gs ⊢
          clear hvn
          generalize v.heap.size = b4 at h4 ⊢
          have gn := grown_trans g gs
          refine hK.out _ _ gn (fun hHeld => ?_)
          clear hK K
          try simp only [Act.put]
          have h2 := h2.more gs
          have h9 := box_kept h9 gs
          clear g gs hHeld
          refine cast ?_ (N0_2_7 u ia il ic na nl nc b4 b9 gn h2 h4 h9 hb9)
          kernel_rfl
        exact AllReadyH.nil
      · intro v ia il ic na nl nc b4 g h2 h4
        refine wpAnyH_ready (rs := [3, 7]) (by kernel_rfl) (by simp) ?_
        refine AllReadyH.cons rfl (fun K hK => ?_) ?_
        · go_simp
          refine (h2 v ⟨some ⟨b4, 0, none⟩, 1, 1⟩ ⟨tx, ⟨xa, x.length, xc⟩, ⟨ua, xs.length, uc⟩⟩ rfl (grown_refl _) (one_ten _ h4 (HX.out.more (grown_trans GR.out g)) (HXS.out.more (grown_trans GR.out g)))).mono ?_
          intro e u hq
          obtain ⟨hgd, ⟨ma, mn, mc⟩, ⟨md, mm, mk⟩, rfl, hla⟩ := do_pastR hq
          have gn := grown_trans g hgd
          refine hK.out _ _ gn (fun hHeld => ?_)
          clear hK K
          try simp only
          skip
          refine wpAnyH_take (i := 4) (v := ?_) rfl (by kernel_rfl) (by kernel_rfl) (by kernel_rfl) (fun _ _ _ h => h) (Or.inl ⟨by kernel_rfl, ?_⟩) (by assumption) ?_
          rotate_left 1
          · (intro wS hSw; go_simp; (try with_reducible rfl))
          try simp only [Act.put]
          refine wpAnyH_take (i := 5) (v := ?_) rfl (by kernel_rfl) (by kernel_rfl) (by kernel_rfl) (fun _ _ _ h => h) (Or.inl ⟨by kernel_rfl, ?_⟩) (by assumption) ?_
          rotate_left 1
          · (intro wS hSw; go_simp; (try with_reducible rfl))
          try simp only [Act.put]
          refine wpAnyH_take (i := 6) (v := ?_) rfl (by kernel_rfl) (by kernel_rfl) (by kernel_rfl) (fun _ _ _ h => h) (Or.inl ⟨by kernel_rfl, ?_⟩) (by assumption) ?_
          rotate_left 1
          · (intro wS hSw; go_simp; (try with_reducible rfl))
          try simp only [Act.put]
          refine wpAnyH_ready (rs := [7]) (by kernel_rfl) (by simp) ?_
          refine AllReadyH.cons rfl (fun K hK => ?_) AllReadyH.nil
          go_simp
          have kB := heap_alloc_new u (.cells #[.int .i64 0, .slice none 0 0, .slice none 0 0] 25)
          have gs := grown_new u (.cells #[.int .i64 0, .slice none 0 0, .slice none 0 0] 25)
          have hb9 := gn.size
          have LB : Hid (∀ wx, u.grownBy wx none → IsInts wx (.slice ma mn mc) (rL rb) ∧ IsInts wx (.slice md mm mk) (rZ rb)) := fun wx hx => hla v.heap.size.pred wx (Nat.pred_lt (by have := (Array.getElem?_eq_some_iff.1 h4).1; omega)) ⟨hx.1, hx.2, hx.3, hx.4, fun i hi _ => hx.5 i hi (by simp)⟩
          have gn2 := grown_trans gn gs
          refine hK.out _ _ gn2 (fun hHeld => ?_)
          clear hK K
          try simp only [Act.put]
          generalize hvn : u.alloc (.cells #[.int .i64 0, .slice none 0 0, .slice none 0 0] 25) = y at kB gs gn2 hHeld ⊢
          clear hvn
          obtain ⟨b9, hb⟩ : ∃ b, b = u.heap.size := ⟨_, rfl⟩
          have LC : Hid (∀ wx, y.grownBy wx (some b9) → IsInts wx (.slice ma mn mc) (rL rb) ∧ IsInts wx (.slice md mm mk) (rZ rb)) := fun wx hx => LB.out wx (grown_drop gs hx (by rw [hb]; exact Nat.le_refl _))
          rw [← hb] at kB hb9 ⊢
          clear hb LB gs
          replace LB := LC
          replace gn := gn2
          clear LC gn2
          obtain ⟨k0, k1, k2⟩ := ten_cells kB
          obtain ⟨f0, f1, f2⟩ := ten_frozen kB
          obtain ⟨st, sg⟩ := store3t (.int .i64 (rTy rb)) (.slice ma mn mc) (.slice md mm mk) kB
          refine wpAnyH_ready (rs := [8]) (by kernel_rfl) (by simp) ?_
          refine AllReadyH.cons rfl (fun K hK => ?_) AllReadyH.nil
          go_simp
          have gz := grown_drop gn sg hb9
          refine hK.out _ _ gz (fun hHeld => ?_)
          clear hK K
          try simp only [Act.put]
          refine wpAnyH_take (i := 9) (v := ?_) rfl (by kernel_rfl) (by kernel_rfl) (by kernel_rfl) (fun _ _ _ h => h) (Or.inl ⟨by kernel_rfl, ?_⟩) (by assumption) ?_
          rotate_left 1
          · (intro wS hSw; go_simp; (try with_reducible rfl))
          try simp only [Act.put]
          refine wpAnyH_done (by kernel_rfl) ?_ _
          have RE := LB.out _ sg
          clear h2 h4 hq hla kB k0 k1 k2 f0 f1 f2 g gn hHeld
          go_simp
          go_wp2_with fail
          go_meet
          exact ⟨gz, b9, ⟨ma, mn, mc⟩, ⟨md, mm, mk⟩, rfl, rfl, hb9, st, RE.1, RE.2⟩
        refine AllReadyH.cons rfl (fun K hK => ?_) ?_
        · have hb9 := g.size
          go_simp
          have h9 := heap_alloc_new v (.cells #[.int .i64 0, .slice none 0 0, .slice none 0 0] 25)
          have gs := grown_new v (.cells #[.int .i64 0, .slice none 0 0, .slice none 0 0] 25)
          generalize hvn : v.alloc (.cells #[.int .i64 0, .slice none 0 0, .slice none 0 0] 25) = u at h9 gs ⊢
          clear hvn
          generalize v.heap.size = b9 at h9 hb9 ⊢
          have gn := grown_trans g gs
          refine hK.out _ _ gn (fun hHeld => ?_)
          clear hK K
          try simp only [Act.put]
          have h2 := h2.more gs
          have h4 := box_kept h4 gs
          clear g gs hHeld
          refine cast ?_ (N0_2_7 u ia il ic na nl nc b4 b9 gn h2 h4 h9 hb9)
          kernel_rfl
        exact AllReadyH.nil
      · intro v ia il ic na nl nc b4 b9 g h2 h4 h9 hb9
        refine wpAnyH_ready (rs := [3]) (by kernel_rfl) (by simp) ?_
        refine AllReadyH.cons rfl (fun K hK => ?_) ?_
        · go_simp
          refine (h2 v ⟨some ⟨b4, 0, none⟩, 1, 1⟩ ⟨tx, ⟨xa, x.length, xc⟩, ⟨ua, xs.length, uc⟩⟩ rfl (grown_refl _) (one_ten _ h4 (HX.out.more (grown_trans GR.out g)) (HXS.out.more (grown_trans GR.out g)))).mono ?_
          intro e u hq
          obtain ⟨hgd, ⟨ma, mn, mc⟩, ⟨md, mm, mk⟩, rfl, hla⟩ := do_pastR hq
          have gn := grown_trans g hgd
          refine hK.out _ _ gn (fun hHeld => ?_)
          clear hK K
          try simp only
          have kB := box_kept h9 hgd
          have LB : Hid (∀ wx, u.grownBy wx (some b9) → IsInts wx (.slice ma mn mc) (rL rb) ∧ IsInts wx (.slice md mm mk) (rZ rb)) := fun wx hx => hla b9 wx (Array.getElem?_eq_some_iff.1 h9).1 hx
          refine wpAnyH_take (i := 4) (v := ?_) rfl (by kernel_rfl) (by kernel_rfl) (by kernel_rfl) (fun _ _ _ h => h) (Or.inl ⟨by kernel_rfl, ?_⟩) (by assumption) ?_
          rotate_left 1
          · (intro wS hSw; go_simp; (try with_reducible rfl))
          try simp only [Act.put]
          refine wpAnyH_take (i := 5) (v := ?_) rfl (by kernel_rfl) (by kernel_rfl) (by kernel_rfl) (fun _ _ _ h => h) (Or.inl ⟨by kernel_rfl, ?_⟩) (by assumption) ?_
          rotate_left 1
          · (intro wS hSw; go_simp; (try with_reducible rfl))
          try simp only [Act.put]
          refine wpAnyH_take (i := 6) (v := ?_) rfl (by kernel_rfl) (by kernel_rfl) (by kernel_rfl) (fun _ _ _ h => h) (Or.inl ⟨by kernel_rfl, ?_⟩) (by assumption) ?_
          rotate_left 1
          · (intro wS hSw; go_simp; (try with_reducible rfl))
          try simp only [Act.put]
          obtain ⟨k0, k1, k2⟩ := ten_cells kB
          obtain ⟨f0, f1, f2⟩ := ten_frozen kB
          obtain ⟨st, sg⟩ := store3t (.int .i64 (rTy rb)) (.slice ma mn mc) (.slice md mm mk) kB
          refine wpAnyH_ready (rs := [8]) (by kernel_rfl) (by simp) ?_
          refine AllReadyH.cons rfl (fun K hK => ?_) AllReadyH.nil
          go_simp
          have gz := grown_drop gn sg hb9
          refine hK.out _ _ gz (fun hHeld => ?_)
          clear hK K
          try simp only [Act.put]
          refine wpAnyH_take (i := 9) (v := ?_) rfl (by kernel_rfl) (by kernel_rfl) (by kernel_rfl) (fun _ _ _ h => h) (Or.inl ⟨by kernel_rfl, ?_⟩) (by assumption) ?_
          rotate_left 1
          · (intro wS hSw; go_simp; (try with_reducible rfl))
          try simp only [Act.put]
          refine wpAnyH_done (by kernel_rfl) ?_ _
          have RE := LB.out _ sg
          clear h2 h4 h9 hq hla kB k0 k1 k2 f0 f1 f2 g gn hHeld
          go_simp
          go_wp2_with fail
          go_meet
          exact ⟨gz, b9, ⟨ma, mn, mc⟩, ⟨md, mm, mk⟩, rfl, rfl, hb9, st, RE.1, RE.2⟩
        exact AllReadyH.nil
    case rest =>
    obtain ⟨hgc, B2, ⟨ba, bn, bc⟩, ⟨bd, bm, bk⟩, rfl, rfl, hB2, hbB, ib, jb⟩ := hcut
    simp only [Sl.v] at hbB ib jb
    have GZ := hide (grown_trans GR.out hgc)
    have LZ := hide (LV.out wc GZ.out)
    have EE := points_err nilS tx x xs
    rw [← HRA.out, ← HRB.out] at EE
    have ja := JA.out.more hgc
    obtain ⟨a0, a1, a2⟩ := ten_cells (box_kept HB1.out hgc)
    obtain ⟨c0, c1, c2⟩ := ten_cells hbB
    obtain ⟨x0, x1, x2⟩ := ten_cells (BX.out wc (grown_trans GA0.out hgc))
    cases ra with
    | error c =>
      have hn : c ≠ 0 := by
        have h := HRA.out.symm
        unfold argR doR at h
        split at h
        · cases h
        · rename_i c' hn
          cases h
          exact nz_node (nz_outR _ _ _ _ (nz_tyarg _) (nz_reduced _ _)) _ hn
      rw [← EE]
      have h0 : (rC (Except.error c : R (Int × List Int × List Int)) != 0) = true := by simpa [rC] using hn
      have h1 : (rC (Except.error c : R (Int × List Int × List Int)) == rC (Except.error c : R (Int × List Int × List Int))) = true := by simp
      clear hn EE hgc hbB ib jb ja a0 a1 a2 c0 c1 c2 KB
      go_wp2_with fail
      refine LZ.out.mono ?_
      rintro e u4 ⟨rfl, hg4⟩
      go_wp2
      go_ret
      exact ⟨rfl, grown_below (grown_trans GZ.out hg4)⟩
    | ok rra =>
      obtain ⟨ta, l1, as1⟩ := rra
      cases rb with
      | error c => exact absurd EE.symm (nz_maxR _ _ _ _ c HRB.out.symm)
      | ok rrb =>
        obtain ⟨tb, l2, bs1⟩ := rrb
        have h0 : (rC (Except.ok (ta, l1, as1) : R (Int × List Int × List Int)) != 0) = false := rfl
        have h1 : (rC (Except.ok (tb, l2, bs1) : R (Int × List Int × List Int)) != 0) = false := rfl
        obtain ⟨D, M, hD, hD2, hM2, lA, lB, hMD, hall⟩ := points_answer (by have := HX0.out; omega) NAN.out HRA.out.symm HRB.out.symm
        simp only [rZ] at ja jb
        obtain ⟨_, _, e1, -⟩ := ja.sl
        obtain ⟨_, _, e2, -⟩ := jb.sl
        simp only [Value.slice.injEq] at e1 e2
        obtain ⟨-, e1, -⟩ := e1
        obtain ⟨-, e2, -⟩ := e2
        rw [lA] at e1
        rw [lB] at e2
        replace e1 := e1.symm
        replace e2 := e2.symm
        subst e1
        subst e2
        obtain ⟨xb, xo, rfl, hcx⟩ := HX.out.get (k := x.length - 1) (by have := HX0.out; omega)
        have qd := cell_still (hcx (x.length - 1) (by have := HX0.out; omega)) GZ.out
        rw [hD] at qd
        have x0p : 1 ≤ x.length := by have := HX0.out; omega
        have xl1 : (((x.length - 1 : Nat)) : Int) = (x.length : Int) - 1 := by omega
        have hw1 : IntKind.i64.wrap ((x.length : Int) - 1) = ((x.length - 1 : Nat) : Int) := by rw [wrap_i64_eq, xl1]; unfold wrap64; have := HX.out.le; omega
        have lt1 : ((x.length - 1 : Nat) : Int) < (x.length : Int) := by omega
        have hmd : IntKind.i64.wrap ((M : Int) * (D : Int)) = (xs.length : Int) := by rw [wrap_i64_eq, ← Int.natCast_mul, hMD]; unfold wrap64; omega
        have HJA := hide ja
        have HJB := hide jb
        have HALL := hide hall
        have HLA := hide lA
        have HLB := hide lB
        have HMD := hide hMD
        have AC : Hid (∀ wx, wc.grownBy wx none → wx.cell? ⟨B1, 2, none⟩ = some (.slice ad M ak) ∧ wx.cell? ⟨B2, 2, none⟩ = some (.slice bd M bk) ∧ wx.cell? ⟨w.heap.size, 0, none⟩ = some (.int .i64 tx) ∧ wx.cell? ⟨w.heap.size, 2, none⟩ = some (.slice ua xs.length uc)) := fun wx h => ⟨cell_still a2 h, cell_still c2 h, cell_still x0 h, cell_still x2 h⟩
        clear hcx hgc hbB ib jb ja KB EE hall lA lB hMD hD a0 a1 c0 c1 xl1
        have LW : Hid (∀ wx, wc.grownBy wx none → Calls Tryz.prog 8 #[] wx fun e w' => e = .returned (.bool true) ∧ wx.grownBy w' none) := fun wx h => LV.out wx (grown_trans GZ.out h)
        go_wp2_with fail
        clear x0 x1 x2 a2 c2 qd hw1 lt1 hmd h0 h1 LZ x0p
        go_loopw [9] (fun i wr => wc.grownBy wr none ∧ ∃ j : Nat, j ≤ M ∧ i = .int .i64 j) (fun i _ => M - (intOf i).toNat)
        case atStart => exact ⟨grown_refl _, 0, Nat.zero_le _, rfl⟩
        case round =>
          obtain ⟨hg, j, hj, rfl⟩ := hrel
          have HG := hide hg
          obtain ⟨a2, c2, x0, x2⟩ := AC.out wr hg
          by_cases hlt : j < M
          · obtain ⟨kk, hk1, hk2, hk3⟩ := HALL.out j hlt
            obtain ⟨pa, po, rfl, hca⟩ := HJA.out.get (k := j) (by rw [HLA.out]; exact hlt)
            obtain ⟨pb, pq, rfl, hcb⟩ := HJB.out.get (k := j) (by rw [HLB.out]; exact hlt)
            have q0 := cell_still (hca j (by rw [HLA.out]; exact hlt)) hg
            have q1 := cell_still (hcb j (by rw [HLB.out]; exact hlt)) hg
            rw [hk1] at q0
            have hle : j * D + D ≤ xs.length := by
              rw [← HMD.out, show j * D + D = (j + 1) * D from by rw [Nat.add_mul]; omega]
              exact Nat.mul_le_mul_right _ hlt
            obtain ⟨ub, uo, rfl, hcu⟩ := HXS.out.get (k := j * D + kk) (by omega)
            have q2 := cell_still (hcu (j * D + kk) (by omega)) (grown_trans GZ.out hg)
            obtain ⟨y, hy⟩ : ∃ y, y = xs.getD (j * D + kk) 0 := ⟨_, rfl⟩
            obtain ⟨v0, hv0⟩ : ∃ v, v = bs1.getD j 0 := ⟨_, rfl⟩
            rw [← hy] at q2 hk3
            rw [← hv0] at q1 hk3
            obtain ⟨ez, hez⟩ : ∃ z, z = (Nu.bin 9 tx y v0).2 := ⟨_, rfl⟩
            have EQ : Hid (∀ v : World, Calls Tryz.prog 11 #[.string ⟨#[69, 113, 117, 97, 108]⟩, .int .i64 tx, .int .i64 y, .int .i64 v0] v fun e w' => e = .returned (.tuple #[.int .i64 1, .int .i64 ez]) ∧ v.grownBy w' none) := fun v => by
              have h := Nu.rbinary9 tx y v0 v
              rw [hk3, ← hez] at h
              exact h.mono fun e w' he => ⟨he.1, by obtain ⟨q, rfl⟩ := he.2; exact ⟨rfl, rfl, rfl, Nat.le_refl _, fun k hk hn => rfl⟩⟩
            obtain ⟨P, hP⟩ : ∃ P, P = j * D := ⟨_, rfl⟩
            have wm : IntKind.i64.wrap ((j : Int) * (D : Int)) = (P : Int) := by rw [wrap_i64_eq, ← Int.natCast_mul, ← hP]; unfold wrap64; omega
            rw [← hP] at q2 hle
            obtain ⟨Q, hQ⟩ : ∃ Q, Q = P + kk := ⟨_, rfl⟩
            rw [← hQ] at q2
            have wa : IntKind.i64.wrap ((P : Int) + (kk : Int)) = (Q : Int) := by rw [wrap_i64_eq]; unfold wrap64; omega
            have l1 : (j : Int) < (M : Int) := by omega
            have lk : ¬ ((kk : Int) < 0) := by omega
            have lk2 : ¬ (D : Int) ≤ (kk : Int) := by omega
            have l2 : (Q : Int) < (xs.length : Int) := by omega
            clear hg hca hcb hcu hk1 hk3 hy hv0 hP hQ hle hez
            go_wp2_with fail
            refine wp_region_held_drew (S := fun w' => wr.grownBy w' none) (by kernel_rfl) (grown_drew (grown_refl _)) (fun hHeld => ?_)
            refine wpAnyH_take (i := 0) (v := ?_) rfl (by kernel_rfl) (by kernel_rfl) (by kernel_rfl) (fun _ _ _ h => h) (Or.inl ⟨by kernel_rfl, ?_⟩) (by assumption) ?_
            rotate_left 1
            · (intro wS hSw; go_simp; (try with_reducible rfl))
            try simp only [Act.put]
            refine wpAnyH_take (i := 1) (v := ?_) rfl (by kernel_rfl) (by kernel_rfl) (by kernel_rfl) (fun _ _ _ h => h) (Or.inl ⟨by kernel_rfl, ?_⟩) (by assumption) ?_
            rotate_left 1
            · (intro wS hSw; have c0 := cell_still x0 hSw; go_simp; (try with_reducible rfl))
            try simp only [Act.put]
            refine wpAnyH_take (i := 2) (v := ?_) rfl (by kernel_rfl) (by kernel_rfl) (by kernel_rfl) (fun _ _ _ h => h) (Or.inl ⟨by kernel_rfl, ?_⟩) (by assumption) ?_
            rotate_left 1
            · (intro wS hSw; go_simp; (try with_reducible rfl))
            try simp only [Act.put]
            refine wpAnyH_take (i := 3) (v := ?_) rfl (by kernel_rfl) (by kernel_rfl) (by kernel_rfl) (fun _ _ _ h => h) (Or.inl ⟨by kernel_rfl, ?_⟩) (by assumption) ?_
            rotate_left 1
            · (intro wS hSw; have c0 := cell_still x2 hSw; go_simp; (try with_reducible rfl))
            try simp only [Act.put]
            refine wpAnyH_take (i := 4) (v := ?_) rfl (by kernel_rfl) (by kernel_rfl) (by kernel_rfl) (fun _ _ _ h => h) (Or.inl ⟨by kernel_rfl, ?_⟩) (by assumption) ?_
            rotate_left 1
            · (intro wS hSw; go_simp; (try with_reducible rfl))
            try simp only [Act.put]
            refine wpAnyH_take (i := 5) (v := ?_) rfl (by kernel_rfl) (by kernel_rfl) (by kernel_rfl) (fun _ _ _ h => h) (Or.inl ⟨by kernel_rfl, ?_⟩) (by assumption) ?_
            rotate_left 1
            · (intro wS hSw; go_simp; (try with_reducible rfl))
            try simp only [Act.put]
            refine wpAnyH_take (i := 6) (v := .int .i64 (P : Int)) rfl (by kernel_rfl) (by kernel_rfl) (by kernel_rfl) (fun _ _ _ h => h) (Or.inl ⟨by kernel_rfl, ?_⟩) (by assumption) ?_
            · (intro wS hSw; go_simp; (try simp only [wm]))
            try simp only [Act.put]
            refine wpAnyH_take (i := 7) (v := ?_) rfl (by kernel_rfl) (by kernel_rfl) (by kernel_rfl) (fun _ _ _ h => h) (Or.inl ⟨by kernel_rfl, ?_⟩) (by assumption) ?_
            rotate_left 1
            · (intro wS hSw; go_simp; (try with_reducible rfl))
            try simp only [Act.put]
            refine wpAnyH_take (i := 8) (v := ?_) rfl (by kernel_rfl) (by kernel_rfl) (by kernel_rfl) (fun _ _ _ h => h) (Or.inl ⟨by kernel_rfl, ?_⟩) (by assumption) ?_
            rotate_left 1
            · (intro wS hSw; have c0 := cell_still a2 hSw; go_simp; (try with_reducible rfl))
            try simp only [Act.put]
            refine wpAnyH_take (i := 9) (v := ?_) rfl (by kernel_rfl) (by kernel_rfl) (by kernel_rfl) (fun _ _ _ h => h) (Or.inl ⟨by kernel_rfl, ?_⟩) (by assumption) ?_
            rotate_left 1
            · (intro wS hSw; go_simp; (try with_reducible rfl))
            try simp only [Act.put]
            refine wpAnyH_take (i := 10) (v := ?_) rfl (by kernel_rfl) (by kernel_rfl) (by kernel_rfl) (fun _ _ _ h => h) (Or.inl ⟨by kernel_rfl, ?_⟩) (by assumption) ?_
            rotate_left 1
            · (intro wS hSw; go_simp; (try with_reducible rfl))
            try simp only [Act.put]
            refine wpAnyH_take (i := 11) (v := ?_) rfl (by kernel_rfl) (by kernel_rfl) (by kernel_rfl) (fun _ _ _ h => h) (Or.inl ⟨by kernel_rfl, ?_⟩) (by assumption) ?_
            rotate_left 1
            · (intro wS hSw; have c0 := cell_still q0 hSw; go_simp; (try with_reducible rfl))
            try simp only [Act.put]
            refine wpAnyH_take (i := 12) (v := .int .i64 (Q : Int)) rfl (by kernel_rfl) (by kernel_rfl) (by kernel_rfl) (fun _ _ _ h => h) (Or.inl ⟨by kernel_rfl, ?_⟩) (by assumption) ?_
            · (intro wS hSw; go_simp; (try simp only [wa]))
            try simp only [Act.put]
            refine wpAnyH_take (i := 13) (v := ?_) rfl (by kernel_rfl) (by kernel_rfl) (by kernel_rfl) (fun _ _ _ h => h) (Or.inl ⟨by kernel_rfl, ?_⟩) (by assumption) ?_
            rotate_left 1
            · (intro wS hSw; go_simp; (try with_reducible rfl))
            try simp only [Act.put]
            refine wpAnyH_take (i := 14) (v := ?_) rfl (by kernel_rfl) (by kernel_rfl) (by kernel_rfl) (fun _ _ _ h => h) (Or.inl ⟨by kernel_rfl, ?_⟩) (by assumption) ?_
            rotate_left 1
            · (intro wS hSw; have c0 := cell_still q2 hSw; go_simp; (try with_reducible rfl))
            try simp only [Act.put]
            refine wpAnyH_take (i := 15) (v := ?_) rfl (by kernel_rfl) (by kernel_rfl) (by kernel_rfl) (fun _ _ _ h => h) (Or.inl ⟨by kernel_rfl, ?_⟩) (by assumption) ?_
            rotate_left 1
            · (intro wS hSw; go_simp; (try with_reducible rfl))
            try simp only [Act.put]
            refine wpAnyH_take (i := 16) (v := ?_) rfl (by kernel_rfl) (by kernel_rfl) (by kernel_rfl) (fun _ _ _ h => h) (Or.inl ⟨by kernel_rfl, ?_⟩) (by assumption) ?_
            rotate_left 1
            · (intro wS hSw; have c0 := cell_still c2 hSw; go_simp; (try with_reducible rfl))
            try simp only [Act.put]
            refine wpAnyH_take (i := 17) (v := ?_) rfl (by kernel_rfl) (by kernel_rfl) (by kernel_rfl) (fun _ _ _ h => h) (Or.inl ⟨by kernel_rfl, ?_⟩) (by assumption) ?_
            rotate_left 1
            · (intro wS hSw; go_simp; (try with_reducible rfl))
            try simp only [Act.put]
            refine wpAnyH_take (i := 18) (v := ?_) rfl (by kernel_rfl) (by kernel_rfl) (by kernel_rfl) (fun _ _ _ h => h) (Or.inl ⟨by kernel_rfl, ?_⟩) (by assumption) ?_
            rotate_left 1
            · (intro wS hSw; go_simp; (try with_reducible rfl))
            try simp only [Act.put]
            refine wpAnyH_take (i := 19) (v := ?_) rfl (by kernel_rfl) (by kernel_rfl) (by kernel_rfl) (fun _ _ _ h => h) (Or.inl ⟨by kernel_rfl, ?_⟩) (by assumption) ?_
            rotate_left 1
            · (intro wS hSw; have c0 := cell_still q1 hSw; go_simp; (try with_reducible rfl))
            try simp only [Act.put]
            have g : wr.grownBy wr.drew none := hHeld
            clear hHeld
            refine wpAnyH_ready (rs := [20]) (by kernel_rfl) (by simp) ?_
            refine AllReadyH.cons rfl (fun K hK => ?_) AllReadyH.nil
            go_simp
            refine (EQ.out _).mono ?_
            rintro e u ⟨rfl, hgu⟩
            have gn := grown_trans g hgu
            refine hK.out _ _ gn (fun hHeld => ?_)
            clear hK K hHeld
            try simp only
            refine wpAnyH_take (i := 21) (v := ?_) rfl (by kernel_rfl) (by kernel_rfl) (by kernel_rfl) (fun _ _ _ h => h) (Or.inl ⟨by kernel_rfl, ?_⟩) (by assumption) ?_
            rotate_left 1
            · (intro wS hSw; go_simp; (try with_reducible rfl))
            try simp only [Act.put]
            refine wpAnyH_take (i := 22) (v := ?_) rfl (by kernel_rfl) (by kernel_rfl) (by kernel_rfl) (fun _ _ _ h => h) (Or.inl ⟨by kernel_rfl, ?_⟩) (by assumption) ?_
            rotate_left 1
            · (intro wS hSw; go_simp; (try with_reducible rfl))
            try simp only [Act.put]
            refine wpAnyH_take (i := 23) (v := ?_) rfl (by kernel_rfl) (by kernel_rfl) (by kernel_rfl) (fun _ _ _ h => h) (Or.inl ⟨by kernel_rfl, ?_⟩) (by assumption) ?_
            rotate_left 1
            · (intro wS hSw; go_simp; (try with_reducible rfl))
            try simp only [Act.put]
            refine wpAnyH_take (i := 24) (v := ?_) rfl (by kernel_rfl) (by kernel_rfl) (by kernel_rfl) (fun _ _ _ h => h) (Or.inl ⟨by kernel_rfl, ?_⟩) (by assumption) ?_
            rotate_left 1
            · (intro wS hSw; go_simp; (try with_reducible rfl))
            try simp only [Act.put]
            refine wpAnyH_take (i := 25) (v := ?_) rfl (by kernel_rfl) (by kernel_rfl) (by kernel_rfl) (fun _ _ _ h => h) (Or.inl ⟨by kernel_rfl, ?_⟩) (by assumption) ?_
            rotate_left 1
            · (intro wS hSw; go_simp; (try with_reducible rfl))
            try simp only [Act.put]
            refine wpAnyH_done (by kernel_rfl) ?_ _
            have GN := hide (grown_trans HG.out gn)
            clear g gn hgu
            go_simp
            go_wp2_with fail
            go_roundw
            case rel => exact ⟨GN.out, j + 1, by omega, by go_num⟩
            case measure => simp [intOf]; omega
          · have hje : j = M := by omega
            subst hje
            have LX := hide (LW.out wr hg)
            clear hg x0 x2 c2
            go_wp2_with fail
            refine LX.out.mono ?_
            rintro e w8 ⟨rfl, hg8⟩
            go_wp2
            go_ret
            exact ⟨rfl, grown_below (grown_trans GZ.out (grown_trans HG.out hg8))⟩

end Go.Proofs.YtahmmilhmoogbaaGreatDoor
