/- Joined texts: LvDocA, LvDocC. -/
import Derived.Test.YtmdpeckeliplkaaDoorPartT
import Derived.Test.YtmdpeckeliplkaaDoorPartP
import Derived.BigQuiet
/- The document's Done and Apart, by the walk. -/
namespace Go.Proofs.YtmdpeckeliplkaaDoor
open Go.RowKit

/-- Is one done with ahead of another one, in the document's words? -/
def ddF (ns : List Nc) (os : List ByteArray) (M : List (List Bool)) (n a b : Nat) : Bool :=
  !(os.any (fun o => o.toList == (ns.getD a noNc).n.out.toList)) && (List.range n).all (fun c => !(rdsF (ns.getD c noNc) (ns.getD a noNc).n.out) || (M.getD c []).getD b false) && (M.getD a []).getD b false

set_option maxRecDepth 100000 in
set_option maxHeartbeats 6400000 in
theorem ddone_any (nam : ByteArray) (u iv ov tv : Sl) (ns : List Nc) (vout : List (Val × List Int)) (Q n a b : Nat) (q : Nat → Nat) (M : List (List Bool)) (w : World) (hu : IsNods w u.v (ns.map (·.n))) (hn : ns.length = n) (ho : IsVals w ov.v (vout.map (·.1))) (hin : ∀ c, c < n → ∀ wx, w.grownBy wx none → IsStrs wx (ns.getD c noNc).n.iv.v (ns.getD c noNc).ins) (hM : Rb w Q n q M) (ha : a < n) (hb : b < n) (hs : n ≤ 1048576) (hv : vout.length ≤ 1048576) :
    Calls Tryd.prog 30 #[.agg #[.string nam, .slice u.a u.n u.c, .slice iv.a iv.n iv.c, .slice ov.a ov.n ov.c, .slice tv.a tv.n tv.c], .slice (some ⟨Q, 0, none⟩) n n, .int .i64 (a : Int), .int .i64 (b : Int)] w fun e w' => e = .returned (.bool (ddF ns (onames vout) M n a b)) ∧ w.grownBy w' none := by
  obtain ⟨ua, un, uc⟩ := u
  obtain ⟨oa, oN, oc⟩ := ov
  obtain ⟨xa, xc, e1, -⟩ := hu.form
  obtain ⟨rfl, rfl, rfl⟩ : ua = xa ∧ un = (ns.map (·.n)).length ∧ uc = xc := by simpa [Sl.v] using e1
  obtain ⟨ya, yc, e2, -⟩ := ho.form
  obtain ⟨rfl, rfl, rfl⟩ : oa = ya ∧ oN = (vout.map (fun p : Val × List Int => p.1)).length ∧ oc = yc := by simpa [Sl.v] using e2
  have HU := hide hu
  have HO := hide ho
  have HIN := hide hin
  have HM := hide hM
  have HN := hide hn
  simp only [Sl.v] at HU HO
  have l1 : (ns.map (·.n)).length = n := by rw [List.length_map]; exact hn
  have l2 : (vout.map (fun p : Val × List Int => p.1)).length = vout.length := by rw [List.length_map]
  simp only [l1, l2] at HU HO ⊢
  have HGE : Hid (∀ k (hk : k < (ns.map (·.n)).length), (ns.map (·.n))[k] = (ns.getD k noNc).n) := fun k hk => by
    rw [List.getElem_map, List.getD, List.getElem?_eq_getElem (by rw [List.length_map] at hk; exact hk)]
    rfl
  clear hu ho hin hM e1 e2 l1 l2 hn
  obtain ⟨X, hX⟩ : ∃ X, X = (ns.getD a noNc).n.out := ⟨_, rfl⟩
  have HX := hide hX
  have HF : Hid (ddF ns (onames vout) M n a b = (!((onames vout).any (fun o => o.toList == X.toList)) && (List.range n).all (fun c => !(rdsF (ns.getD c noNc) X) || (M.getD c []).getD b false) && (M.getD a []).getD b false)) := by show _ = _; rw [hX]; rfl
  obtain ⟨FF, hFF⟩ : ∃ FF, FF = ddF ns (onames vout) M n a b := ⟨_, rfl⟩
  rw [← hFF] at HF ⊢
  clear hX hFF
  obtain ⟨w0, hw0⟩ : ∃ w0, w0 = w.alloc (.cells #[.string nam, .slice ua n uc, .slice iv.a iv.n iv.c, .slice oa vout.length oc, .slice tv.a tv.n tv.c] 26) := ⟨_, rfl⟩
  have g0 : Hid (w.grownBy w0 none) := by show w.grownBy w0 none; rw [hw0]; exact grown_new _ _
  have b0 := heap_alloc_new w (.cells #[.string nam, .slice ua n uc, .slice iv.a iv.n iv.c, .slice oa vout.length oc, .slice tv.a tv.n tv.c] 26)
  rw [← hw0] at b0
  have BX : Hid (∀ wx, w0.grownBy wx none → wx.heap[w.heap.size]? = some (.cells #[.string nam, .slice ua n uc, .slice iv.a iv.n iv.c, .slice oa vout.length oc, .slice tv.a tv.n tv.c] 26 (0, 0))) := fun wx hx => box_kept b0 hx
  obtain ⟨r0, r1, r2, r3, r4⟩ := gra_cells (g := ⟨nam, ⟨ua, n, uc⟩, iv, ⟨oa, vout.length, oc⟩, tv⟩) b0
  simp only at r1 r3
  have A3 : Hid (∀ wx, w.grownBy wx none → ∃ ub uo, ua = some ⟨ub, uo, none⟩ ∧ wx.cell? ⟨ub, uo + a * 5 + 3, none⟩ = some (.string X)) := fun wx hx => by
    have h := HU.out.more hx
    obtain ⟨ub, uo, e⟩ := h.addr (k := a) (by rw [List.length_map, HN.out]; exact ha)
    have e : ua = some ⟨ub, uo, none⟩ := e
    subst e
    obtain ⟨-, -, -, a3, -⟩ := h.nod a (by rw [List.length_map, HN.out]; exact ha)
    rw [HGE.out, ← HX.out] at a3
    exact ⟨ub, uo, rfl, a3⟩
  obtain ⟨ub, uo, rfl, -⟩ := A3.out w (grown_refl _)
  have A3 : Hid (∀ wx, w.grownBy wx none → wx.cell? ⟨ub, uo + a * 5 + 3, none⟩ = some (.string X)) := fun wx hx => by
    obtain ⟨ub2, uo2, e, h⟩ := A3.out wx hx
    have e1 : ub = ub2 ∧ uo = uo2 := by simpa using e
    rw [e1.1, e1.2]
    exact h
  have a0 : (0 : Int) ≤ (a : Int) := Int.natCast_nonneg _
  have a1 : (a : Int) < (n : Int) := by omega
  have bb0 : (0 : Int) ≤ (b : Int) := Int.natCast_nonneg _
  have bb1 : (b : Int) < (n : Int) := by omega
  rw [hw0] at r1 r3
  go_enter Tryd.func30, Tryd.ntmps30
  go_wp2_with fail
  rw [← hw0]
  clear hw0 b0 r0 r1 r2 r3 r4
  go_loopg [9] vout.length (fun gh i wr => ∃ t : Nat, gh = vout.length - t ∧ t ≤ vout.length ∧ i = .int .i64 t ∧ w0.grownBy wr none ∧ ((onames vout).take t).any (fun o => o.toList == X.toList) = false)
  case atStart => exact ⟨0, rfl, Nat.zero_le _, rfl, grown_refl _, rfl⟩
  case round =>
    obtain ⟨t, hgt, ht, rfl, hgr, hall⟩ := hrel
    have HALL := hide hall
    clear hall
    obtain ⟨r0, r1, r2, r3, r4⟩ := gra_cells (g := ⟨nam, ⟨some ⟨ub, uo, none⟩, n, uc⟩, iv, ⟨oa, vout.length, oc⟩, tv⟩) (BX.out wr hgr)
    simp only at r1 r3
    by_cases hlt : t < vout.length
    · have HV := HO.out.more (grown_trans g0.out hgr)
      obtain ⟨b8, off8, hna⟩ := HV.addr (k := t) (by rw [List.length_map]; exact hlt)
      have hna : oa = some ⟨b8, off8, none⟩ := hna
      subst hna
      obtain ⟨v0, v1, v2⟩ := HV.val t (by rw [List.length_map]; exact hlt)
      have HK : Hid ((onames vout)[t]? = some ((vout.map (fun p : Val × List Int => p.1))[t]'(by rw [List.length_map]; exact hlt)).name) := by show _ = _; unfold onames; rw [List.getElem?_map, List.getElem?_eq_getElem (by rw [List.length_map]; exact hlt)]; rfl
      obtain ⟨Y, hY⟩ : ∃ Y, Y = ((vout.map (fun p : Val × List Int => p.1))[t]'(by rw [List.length_map]; exact hlt)).name := ⟨_, rfl⟩
      rw [← hY] at v0 HK
      have a3 := A3.out wr (grown_trans g0.out hgr)
      clear HV hY v1 v2 r0 r2 r4
      cases hxy : (Y.toList == X.toList) with
      | true =>
        have E : Hid (FF = false) := by
          show _ = _
          rw [HF.out]
          have : (onames vout).any (fun o => o.toList == X.toList) = true := by rw [List.any_eq_true]; exact ⟨Y, List.mem_of_getElem? HK.out, hxy⟩
          rw [this]
          rfl
        go_wp2_with fail
        go_quiet (fail)
        go_wp2_with fail
        go_ret
        exact ⟨by rw [E.out]; rfl, grown_drewN (grown_trans g0.out hgr) _⟩
      | false =>
        have HN2 : Hid (((onames vout).take (t + 1)).any (fun o => o.toList == X.toList) = false) := by show _ = _; rw [List.take_add_one, List.any_append, HALL.out, HK.out]; simp [hxy]
        go_wp2_with fail
        go_quiet (fail)
        go_wp2_with fail
        go_roundg (vout.length - (t + 1))
        case measure => omega
        case rel => exact ⟨t + 1, rfl, by omega, by go_num, grown_drewN hgr _, HN2.out⟩
    · obtain rfl : t = vout.length := by omega
      have HNO : Hid ((onames vout).any (fun o => o.toList == X.toList) = false) := by have h := HALL.out; rw [List.take_of_length_le (by simp [onames])] at h; exact h
      have HF2 : Hid (FF = ((List.range n).all (fun c => !(rdsF (ns.getD c noNc) X) || (M.getD c []).getD b false) && (M.getD a []).getD b false)) := by show _ = _; rw [HF.out, HNO.out]; rfl
      have hgr0 := hgr
      clear r0 r2 r4 HALL HF
      go_wp2_with fail
      clear r1 r3
      go_loopg [10] n (fun gh2 i wr => ∃ c : Nat, gh2 = n - c ∧ c ≤ n ∧ i = .int .i64 c ∧ w0.grownBy wr none ∧ (List.range c).all (fun c => !(rdsF (ns.getD c noNc) X) || (M.getD c []).getD b false) = true)
      case atStart => exact ⟨0, rfl, Nat.zero_le _, rfl, hgr0, rfl⟩
      case round =>
        obtain ⟨c, hgc, hc, rfl, hgq, hall⟩ := hrel
        have HALL := hide hall
        clear hall
        obtain ⟨r0, r1, r2, r3, r4⟩ := gra_cells (g := ⟨nam, ⟨some ⟨ub, uo, none⟩, n, uc⟩, iv, ⟨oa, vout.length, oc⟩, tv⟩) (BX.out wr hgq)
        simp only at r1 r3
        clear r0 r2 r3 r4
        by_cases hcl : c < n
        · have hw := grown_trans g0.out hgq
          have HV := HU.out.more hw
          obtain ⟨k0, k1, k2, k3, k4⟩ := HV.nod c (by rw [List.length_map, HN.out]; exact hcl)
          rw [HGE.out] at k0 k1 k2 k3 k4
          have a3 := A3.out wr hw
          have m1 := (HM.out.more hw).row c hcl
          have m2 := (HM.out.more hw).bit c hcl b hb
          have c0 : (0 : Int) ≤ (c : Int) := Int.natCast_nonneg _
          have c1 : (c : Int) < (n : Int) := by omega
          have DR := hide (fun (wx : World) (hx : wr.grownBy wx none) => dreads_any (ns.getD c noNc) X wx (HIN.out c hcl wx (grown_trans hw hx)))
          have HST : Hid ((List.range (c + 1)).all (fun c => !(rdsF (ns.getD c noNc) X) || (M.getD c []).getD b false) = ((List.range c).all (fun c => !(rdsF (ns.getD c noNc) X) || (M.getD c []).getD b false) && (!(rdsF (ns.getD c noNc) X) || (M.getD c []).getD b false))) := by show _ = _; rw [List.range_succ, List.all_append]; simp
          have HNOT : Hid ((!(rdsF (ns.getD c noNc) X) || (M.getD c []).getD b false) = false → (List.range n).all (fun c => !(rdsF (ns.getD c noNc) X) || (M.getD c []).getD b false) = false) := fun h => by rw [List.all_eq_false]; exact ⟨c, List.mem_range.2 hcl, by rw [h]; decide⟩
          obtain ⟨C, hC⟩ : ∃ C, C = (ns.getD c noNc).n := ⟨_, rfl⟩
          obtain ⟨x, hx⟩ : ∃ x, x = rdsF (ns.getD c noNc) X := ⟨_, rfl⟩
          obtain ⟨y, hy⟩ : ∃ y, y = (M.getD c []).getD b false := ⟨_, rfl⟩
          rw [← hC] at k0 k1 k2 k3 k4 DR
          rw [← hx] at DR HST HNOT
          rw [← hy] at m2 HST HNOT
          clear HV hC hx hy
          obtain ⟨cop, cnam, ⟨ca, cN, cc5⟩, cout, ⟨da, dN5, dc⟩⟩ := C
          unfold nval at DR
          simp only at k0 k1 k2 k3 k4 DR
          have GQ := hide hgq
          have KP : Hid (∀ wx, wr.grownBy wx none → wx.cell? ⟨w.heap.size, 1, none⟩ = some (.slice (some ⟨ub, uo, none⟩) n uc) ∧ wx.cell? ⟨ub, uo + c * 5, none⟩ = some (.string cop) ∧ wx.cell? ⟨ub, uo + c * 5 + 1, none⟩ = some (.string cnam) ∧ wx.cell? ⟨ub, uo + c * 5 + 2, none⟩ = some (.slice ca cN cc5) ∧ wx.cell? ⟨ub, uo + c * 5 + 3, none⟩ = some (.string cout) ∧ wx.cell? ⟨ub, uo + c * 5 + 4, none⟩ = some (.slice da dN5 dc) ∧ wx.cell? ⟨ub, uo + a * 5 + 3, none⟩ = some (.string X) ∧ wx.cell? ⟨Q, c, none⟩ = some (.slice (some ⟨q c, 0, none⟩) n n) ∧ wx.cell? ⟨q c, b, none⟩ = some (.bool y)) := fun wx hx => by
            have up : ∀ {ad : Addr} {v : Value}, wr.cell? ad = some v → wx.cell? ad = some v := fun {ad v} h2 => (World.cell?_of_block (hx.block ad.block (World.block_lt_of_cell? wr _ h2) (by simp))).trans h2
            exact ⟨up r1, up k0, up k1, up k2, up k3, up k4, up a3, up m1, up m2⟩
          cases x with
          | false =>
            go_wp2_with fail
            refine wp_region_held_drew (S := (fun w' => w'.cell? ⟨w.heap.size, 1, none⟩ = some (.slice (some ⟨ub, uo, none⟩) n uc) ∧ w'.cell? ⟨ub, uo + c * 5, none⟩ = some (.string cop) ∧ w'.cell? ⟨ub, uo + c * 5 + 1, none⟩ = some (.string cnam) ∧ w'.cell? ⟨ub, uo + c * 5 + 2, none⟩ = some (.slice ca cN cc5) ∧ w'.cell? ⟨ub, uo + c * 5 + 3, none⟩ = some (.string cout) ∧ w'.cell? ⟨ub, uo + c * 5 + 4, none⟩ = some (.slice da dN5 dc) ∧ w'.cell? ⟨ub, uo + a * 5 + 3, none⟩ = some (.string X))) (by kernel_rfl) (by go_keep) (fun hHeld => ?_)
            refine wpAnyH_take (i := 0) (v := ?_) rfl (by kernel_rfl) (by kernel_rfl) (by kernel_rfl) (fun _ _ _ h => h) (Or.inl ⟨by kernel_rfl, ?_⟩) (by assumption) ?_
            rotate_left 1
            · (intro w hSw; (try dsimp only at hSw); go_simp; (try with_reducible rfl))
            try simp only [Act.put]
            refine wpAnyH_take (i := 1) (v := ?_) rfl (by kernel_rfl) (by kernel_rfl) (by kernel_rfl) (fun _ _ _ h => h) (Or.inl ⟨by kernel_rfl, ?_⟩) (by assumption) ?_
            rotate_left 1
            · (intro w hSw; (try dsimp only at hSw); go_simp; (try with_reducible rfl))
            try simp only [Act.put]
            refine wpAnyH_take (i := 2) (v := ?_) rfl (by kernel_rfl) (by kernel_rfl) (by kernel_rfl) (fun _ _ _ h => h) (Or.inl ⟨by kernel_rfl, ?_⟩) (by assumption) ?_
            rotate_left 1
            · (intro w hSw; (try dsimp only at hSw); go_simp; (try with_reducible rfl))
            try simp only [Act.put]
            refine wpAnyH_take (i := 3) (v := ?_) rfl (by kernel_rfl) (by kernel_rfl) (by kernel_rfl) (fun _ _ _ h => h) (Or.inl ⟨by kernel_rfl, ?_⟩) (by assumption) ?_
            rotate_left 1
            · (intro w hSw; (try dsimp only at hSw); go_simp; (try with_reducible rfl))
            try simp only [Act.put]
            refine wpAnyH_take (i := 4) (v := ?_) rfl (by kernel_rfl) (by kernel_rfl) (by kernel_rfl) (fun _ _ _ h => h) (Or.inl ⟨by kernel_rfl, ?_⟩) (by assumption) ?_
            rotate_left 1
            · (intro w hSw; (try dsimp only at hSw); go_simp; (try with_reducible rfl))
            try simp only [Act.put]
            refine wpAnyH_take (i := 5) (v := ?_) rfl (by kernel_rfl) (by kernel_rfl) (by kernel_rfl) (fun _ _ _ h => h) (Or.inl ⟨by kernel_rfl, ?_⟩) (by assumption) ?_
            rotate_left 1
            · (intro w hSw; (try dsimp only at hSw); go_simp; (try with_reducible rfl))
            try simp only [Act.put]
            refine wpAnyH_take (i := 6) (v := ?_) rfl (by kernel_rfl) (by kernel_rfl) (by kernel_rfl) (fun _ _ _ h => h) (Or.inl ⟨by kernel_rfl, ?_⟩) (by assumption) ?_
            rotate_left 1
            · (intro w hSw; (try dsimp only at hSw); go_simp; (try with_reducible rfl))
            try simp only [Act.put]
            refine wpAnyH_take (i := 7) (v := ?_) rfl (by kernel_rfl) (by kernel_rfl) (by kernel_rfl) (fun _ _ _ h => h) (Or.inl ⟨by kernel_rfl, ?_⟩) (by assumption) ?_
            rotate_left 1
            · (intro w hSw; (try dsimp only at hSw); go_simp; (try with_reducible rfl))
            try simp only [Act.put]
            refine wpAnyH_take (i := 8) (v := ?_) rfl (by kernel_rfl) (by kernel_rfl) (by kernel_rfl) (fun _ _ _ h => h) (Or.inl ⟨by kernel_rfl, ?_⟩) (by assumption) ?_
            rotate_left 1
            · (intro w hSw; (try dsimp only at hSw); go_simp; (try with_reducible rfl))
            try simp only [Act.put]
            refine wpAnyH_take (i := 9) (v := ?_) rfl (by kernel_rfl) (by kernel_rfl) (by kernel_rfl) (fun _ _ _ h => h) (Or.inl ⟨by kernel_rfl, ?_⟩) (by assumption) ?_
            rotate_left 1
            · (intro w hSw; (try dsimp only at hSw); go_simp; (try with_reducible rfl))
            try simp only [Act.put]
            refine wpAnyH_take (i := 10) (v := ?_) rfl (by kernel_rfl) (by kernel_rfl) (by kernel_rfl) (fun _ _ _ h => h) (Or.inl ⟨by kernel_rfl, ?_⟩) (by assumption) ?_
            rotate_left 1
            · (intro w hSw; (try dsimp only at hSw); go_simp; (try with_reducible rfl))
            try simp only [Act.put]
            refine wpAnyH_ready (rs := [11]) (by kernel_rfl) (by simp) ?_
            refine AllReadyH.cons rfl (fun K hK => ?_) ?_
            · skip
              go_simp
              refine (DR.out _ (grown_drew (grown_refl _))).mono ?_
              rintro e w' ⟨rfl, hgw⟩
              obtain ⟨p1, p2, p3, p4, p5, p6, p7, p8, p9⟩ := KP.out w' (grown_trans (grown_drew (grown_refl _)) hgw)
              refine hK.out _ _ (by first | assumption | go_keep) (fun hHeld => ?_)
              clear hK K
              try simp only [Act.put]
              refine wpAnyH_take (i := 12) (v := ?_) rfl (by kernel_rfl) (by kernel_rfl) (by kernel_rfl) (fun _ _ _ h => h) (Or.inl ⟨by kernel_rfl, ?_⟩) (by assumption) ?_
              rotate_left 1
              · (intro w hSw; (try dsimp only at hSw); go_simp; (try with_reducible rfl))
              try simp only [Act.put]
              refine wpAnyH_take (i := 13) (v := undef) rfl (by kernel_rfl) (by kernel_rfl) (by kernel_rfl) (fun _ _ _ h => h) (Or.inr ⟨by kernel_rfl, rfl⟩) (by assumption) ?_
              try simp only [Act.put]
              refine wpAnyH_take (i := 14) (v := undef) rfl (by kernel_rfl) (by kernel_rfl) (by kernel_rfl) (fun _ _ _ h => h) (Or.inr ⟨by kernel_rfl, rfl⟩) (by assumption) ?_
              try simp only [Act.put]
              refine wpAnyH_take (i := 15) (v := undef) rfl (by kernel_rfl) (by kernel_rfl) (by kernel_rfl) (fun _ _ _ h => h) (Or.inr ⟨by kernel_rfl, rfl⟩) (by assumption) ?_
              try simp only [Act.put]
              refine wpAnyH_take (i := 16) (v := undef) rfl (by kernel_rfl) (by kernel_rfl) (by kernel_rfl) (fun _ _ _ h => h) (Or.inr ⟨by kernel_rfl, rfl⟩) (by assumption) ?_
              try simp only [Act.put]
              refine wpAnyH_take (i := 17) (v := undef) rfl (by kernel_rfl) (by kernel_rfl) (by kernel_rfl) (fun _ _ _ h => h) (Or.inr ⟨by kernel_rfl, rfl⟩) (by assumption) ?_
              try simp only [Act.put]
              refine wpAnyH_take (i := 18) (v := undef) rfl (by kernel_rfl) (by kernel_rfl) (by kernel_rfl) (fun _ _ _ h => h) (Or.inr ⟨by kernel_rfl, rfl⟩) (by assumption) ?_
              try simp only [Act.put]
              refine wpAnyH_take (i := 19) (v := undef) rfl (by kernel_rfl) (by kernel_rfl) (by kernel_rfl) (fun _ _ _ h => h) (Or.inr ⟨by kernel_rfl, rfl⟩) (by assumption) ?_
              try simp only [Act.put]
              refine wpAnyH_take (i := 20) (v := undef) rfl (by kernel_rfl) (by kernel_rfl) (by kernel_rfl) (fun _ _ _ h => h) (Or.inr ⟨by kernel_rfl, rfl⟩) (by assumption) ?_
              try simp only [Act.put]
              refine wpAnyH_take (i := 21) (v := ?_) rfl (by kernel_rfl) (by kernel_rfl) (by kernel_rfl) (fun _ _ _ h => h) (Or.inl ⟨by kernel_rfl, ?_⟩) (by assumption) ?_
              rotate_left 1
              · (intro w hSw; (try dsimp only at hSw); go_simp; (try with_reducible rfl))
              try simp only [Act.put]
              refine wpAnyH_done (by kernel_rfl) ?_ _
              have gf : w0.grownBy w' none := grown_trans GQ.out (grown_trans (grown_drew (grown_refl _)) hgw)
              clear p1 p2 p3 p4 p5 p6 p7 p8 p9 r1 k0 k1 k2 k3 k4 a3 m1 m2 hgw hHeld
              go_simp
              go_wp2_with fail
              go_roundg (n - (c + 1))
              case measure => omega
              case rel => exact ⟨c + 1, rfl, by omega, by go_num, gf, by rw [HST.out, HALL.out]; rfl⟩
            exact AllReadyH.nil
          | true =>
            cases y with
            | true =>
              go_wp2_with fail
              go_region_held3 (fun w' => w'.cell? ⟨w.heap.size, 1, none⟩ = some (.slice (some ⟨ub, uo, none⟩) n uc) ∧ w'.cell? ⟨ub, uo + c * 5, none⟩ = some (.string cop) ∧ w'.cell? ⟨ub, uo + c * 5 + 1, none⟩ = some (.string cnam) ∧ w'.cell? ⟨ub, uo + c * 5 + 2, none⟩ = some (.slice ca cN cc5) ∧ w'.cell? ⟨ub, uo + c * 5 + 3, none⟩ = some (.string cout) ∧ w'.cell? ⟨ub, uo + c * 5 + 4, none⟩ = some (.slice da dN5 dc) ∧ w'.cell? ⟨ub, uo + a * 5 + 3, none⟩ = some (.string X) ∧ w'.cell? ⟨Q, c, none⟩ = some (.slice (some ⟨q c, 0, none⟩) n n) ∧ w'.cell? ⟨q c, b, none⟩ = some (.bool true)) (go_keep) (first | (go_at_call 25; refine (DR.out _ (grown_drew (grown_refl _))).mono ?_; rintro e w' ⟨rfl, hgw⟩; obtain ⟨p1, p2, p3, p4, p5, p6, p7, p8, p9⟩ := KP.out w' (grown_trans (grown_drew (grown_refl _)) hgw)) | fail)
              have gf : w0.grownBy w' none := grown_trans GQ.out (grown_trans (grown_drew (grown_refl _)) hgw)
              clear p1 p2 p3 p4 p5 p6 p7 p8 p9 r1 k0 k1 k2 k3 k4 a3 m1 m2 hgw
              go_wp2_with fail
              go_roundg (n - (c + 1))
              case measure => omega
              case rel => exact ⟨c + 1, rfl, by omega, by go_num, gf, by rw [HST.out, HALL.out]; rfl⟩
            | false =>
              have E : Hid (FF = false) := by show _ = _; rw [HF2.out, HNOT.out rfl]; rfl
              go_wp2_with fail
              go_region_held3 (fun w' => w'.cell? ⟨w.heap.size, 1, none⟩ = some (.slice (some ⟨ub, uo, none⟩) n uc) ∧ w'.cell? ⟨ub, uo + c * 5, none⟩ = some (.string cop) ∧ w'.cell? ⟨ub, uo + c * 5 + 1, none⟩ = some (.string cnam) ∧ w'.cell? ⟨ub, uo + c * 5 + 2, none⟩ = some (.slice ca cN cc5) ∧ w'.cell? ⟨ub, uo + c * 5 + 3, none⟩ = some (.string cout) ∧ w'.cell? ⟨ub, uo + c * 5 + 4, none⟩ = some (.slice da dN5 dc) ∧ w'.cell? ⟨ub, uo + a * 5 + 3, none⟩ = some (.string X) ∧ w'.cell? ⟨Q, c, none⟩ = some (.slice (some ⟨q c, 0, none⟩) n n) ∧ w'.cell? ⟨q c, b, none⟩ = some (.bool false)) (go_keep) (first | (go_at_call 25; refine (DR.out _ (grown_drew (grown_refl _))).mono ?_; rintro e w' ⟨rfl, hgw⟩; obtain ⟨p1, p2, p3, p4, p5, p6, p7, p8, p9⟩ := KP.out w' (grown_trans (grown_drew (grown_refl _)) hgw)) | fail)
              have gf : w0.grownBy w' none := grown_trans GQ.out (grown_trans (grown_drew (grown_refl _)) hgw)
              clear p1 p2 p3 p4 p5 p6 p7 p8 p9 r1 k0 k1 k2 k3 k4 a3 m1 m2 hgw
              go_wp2_with fail
              go_ret
              exact ⟨by rw [E.out]; rfl, grown_trans g0.out gf⟩
        · obtain rfl : c = n := by omega
          have HF3 : Hid (FF = (M.getD a []).getD b false) := by show _ = _; rw [HF2.out, HALL.out]; rfl
          have m1 := (HM.out.more (grown_trans g0.out hgq)).row a ha
          have m2 := (HM.out.more (grown_trans g0.out hgq)).bit a ha b hb
          obtain ⟨y, hy⟩ : ∃ y, y = (M.getD a []).getD b false := ⟨_, rfl⟩
          rw [← hy] at m2 HF3
          clear hy
          go_wp2_with fail
          go_ret
          exact ⟨by rw [HF3.out]; rfl, grown_trans g0.out hgq⟩
end Go.Proofs.YtmdpeckeliplkaaDoor

/- The document's Apart, by the walk. -/
namespace Go.Proofs.YtmdpeckeliplkaaDoor
open Go.RowKit

theorem out_iff {l : List ByteArray} {k : Nat} (hk : k < l.length) : ∀ (os : List ByteArray) (bs : List Bool), bs.length = l.length → ((os.foldl (outS l) bs).getD k false = true ↔ bs.getD k false = true ∨ ∃ o ∈ os, inL o l = true ∧ pos l o = k)
  | [], bs, _ => by simp
  | x :: os, bs, hl => by
    have hl2 : (outS l bs x).length = l.length := by unfold outS; split <;> simp [hl]
    rw [List.foldl_cons, out_iff hk os (outS l bs x) hl2]
    unfold outS
    by_cases hx : inL x l = true
    · rw [if_pos hx, getD_set _ _ _ _ _ (by rw [hl]; exact pos_lt hx)]
      constructor
      · rintro (h | ⟨o, h1, h2⟩)
        · by_cases e : k = pos l x
          · exact Or.inr ⟨x, List.mem_cons_self .., hx, e.symm⟩
          · rw [if_neg e] at h
            exact Or.inl h
        · exact Or.inr ⟨o, List.mem_cons_of_mem _ h1, h2⟩
      · rintro (h | ⟨o, h1, h2, h3⟩)
        · left
          split
          · rfl
          · exact h
        · rcases List.mem_cons.1 h1 with rfl | h1
          · left
            rw [if_pos h3.symm]
          · exact Or.inr ⟨o, h1, h2, h3⟩
    · rw [if_neg hx]
      constructor
      · rintro (h | ⟨o, h1, h2⟩)
        · exact Or.inl h
        · exact Or.inr ⟨o, List.mem_cons_of_mem _ h1, h2⟩
      · rintro (h | ⟨o, h1, h2, h3⟩)
        · exact Or.inl h
        · rcases List.mem_cons.1 h1 with rfl | h1
          · exact absurd h2 hx
          · exact Or.inr ⟨o, h1, h2, h3⟩

theorem list_bytes {a b : ByteArray} : (a.toList == b.toList) = true ↔ a = b := by
  constructor
  · intro h
    exact bytes_ext (by simpa [ByteArray.toList_eq] using h)
  · rintro rfl
    simp

/-- The document's word and the program's on who is done with ahead of whom. -/
theorem dd_done {w : World} {g : Gra} {cs : List Nc} {vin vout : List (Val × List Int)} {its : List (Nam × List Int × List Int)} (hg : GraphOk w g cs vin vout its) (hz : (orderR cs vin vout its).2 = 0) {a b : Nat} (ha : a < cs.length) : ddF (inOrd cs (lineF cs vin its)) (onames vout) (rowsG cs vin its) cs.length a b = doneF (readG cs vin its) (outG cs vin vout its) (rowsG cs vin its) a b := by
  obtain ⟨hbe, -, -⟩ := read_behind hg hz
  obtain ⟨k1, k2, k3, k4, k5⟩ := orderR_ok hz
  obtain ⟨m1, m2, m3⟩ := line_law (cs := cs) (vin := vin) (its := its) (fun c hc => (hg.is c hc).1) (fun c hc x hx => by
    have hfo := k4
    unfold foundF at hfo
    simp only [Bool.and_eq_true, List.all_eq_true] at hfo
    have := hfo.2 c hc
    unfold allF at this
    rw [List.all_eq_true] at this
    exact this x hx)
  have hLn : (inOrd cs (lineF cs vin its)).length = cs.length := by rw [inOrd_len]; exact k2
  have hu : ∀ k (hk : k < (inOrd cs (lineF cs vin its)).length), inL (inOrd cs (lineF cs vin its))[k].n.out (outsN ((inOrd cs (lineF cs vin its)).take k)) = false := fun k hk => inOrd_unlike k3 m1 m2 hk
  have nth : ∀ k, k < cs.length → ∃ m : Nat, m < cs.length ∧ (lineF cs vin its)[k]? = some (m : Int) ∧ ∀ hm : m < cs.length, (inOrd cs (lineF cs vin its)).getD k noNc = cs[m] := fun k hk => by
    have hr := m2 _ (List.getElem_mem (show k < (lineF cs vin its).length by omega))
    refine ⟨((lineF cs vin its)[k]'(by omega)).toNat, by omega, by rw [List.getElem?_eq_getElem (by omega)]; congr 1; omega, fun hm => ?_⟩
    rw [List.getD, List.getElem?_eq_getElem (by omega)]
    simp only [inOrd, List.getElem_map, Option.getD_some]
    rw [List.getD, List.getElem?_eq_getElem hm]
    rfl
  -- a node that reads a value stands behind its maker
  have after : ∀ c, c < cs.length → rdsF ((inOrd cs (lineF cs vin its)).getD c noNc) ((inOrd cs (lineF cs vin its)).getD a noNc).n.out = true → a < c := fun c hc h => by
    obtain ⟨i, hi, e1, e2⟩ := nth c hc
    obtain ⟨j, hj, e3, e4⟩ := nth a ha
    rw [e2 hi, e4 hj] at h
    unfold rdsF at h
    rw [List.any_eq_true] at h
    obtain ⟨x, hx, he⟩ := h
    have e5 : x = cs[j].n.out := list_bytes.1 he
    have h6 := m3 c i j hi e1 hj ⟨x, hx, by rw [e5]; exact pos_out k3 hj⟩
    obtain ⟨p, hp⟩ := List.mem_iff_getElem?.1 h6
    rw [List.getElem?_take] at hp
    by_cases hpc : p < c
    · rw [if_pos hpc] at hp
      have hpl : p < (lineF cs vin its).length := (List.getElem?_eq_some_iff.1 hp).1
      have e7 : p = a := by
        have q1 : (lineF cs vin its)[p]'hpl = (j : Int) := by rw [List.getElem?_eq_getElem hpl] at hp; injection hp
        have q2 : (lineF cs vin its)[a]'(by omega) = (j : Int) := by rw [List.getElem?_eq_getElem (by omega)] at e3; injection e3
        exact (List.getElem_inj m1).1 (q1.trans q2.symm)
      omega
    · rw [if_neg hpc] at hp
      cases hp
  have hout : (onames vout).any (fun o => o.toList == ((inOrd cs (lineF cs vin its)).getD a noNc).n.out.toList) = (outG cs vin vout its).getD a false := by
    rw [Bool.eq_iff_iff]
    have hal : a < (outsN (inOrd cs (lineF cs vin its))).length := by rw [outsN_len, hLn]; exact ha
    have ex : (outsN (inOrd cs (lineF cs vin its)))[a] = ((inOrd cs (lineF cs vin its)).getD a noNc).n.out := by
      rw [List.getD, List.getElem?_eq_getElem (by rw [hLn]; exact ha)]
      simp [outsN]
    have hp := pos_unlike2 hal (by
      have e4 : (outsN (inOrd cs (lineF cs vin its))).take a = outsN ((inOrd cs (lineF cs vin its)).take a) := by simp [outsN, List.map_take]
      have e5 : (outsN (inOrd cs (lineF cs vin its)))[a] = ((inOrd cs (lineF cs vin its))[a]'(by rw [hLn]; exact ha)).n.out := by simp [outsN]
      rw [e4, e5]
      exact hu a (by rw [hLn]; exact ha))
    rw [ex] at hp
    have ho := out_iff hal (onames vout) (List.replicate (outsN (inOrd cs (lineF cs vin its))).length false) (by simp)
    unfold outG outN
    rw [ho, List.any_eq_true]
    constructor
    · rintro ⟨o, h1, h2⟩
      have e := list_bytes.1 h2
      exact Or.inr ⟨o, h1, by rw [e]; exact hp.1, by rw [e]; exact hp.2⟩
    · rintro (h | ⟨o, h1, h2, h3⟩)
      · exfalso
        rw [List.getD, List.getElem?_replicate] at h
        split at h <;> cases h
      · refine ⟨o, h1, list_bytes.2 ?_⟩
        have h4 := pos_at h2
        rw [h3, List.getElem?_eq_getElem hal, ex] at h4
        injection h4 with h4
        exact h4.symm
  have hall : (List.range cs.length).all (fun c => !(rdsF ((inOrd cs (lineF cs vin its)).getD c noNc) ((inOrd cs (lineF cs vin its)).getD a noNc).n.out) || ((rowsG cs vin its).getD c []).getD b false) = ((readG cs vin its).getD a []).all (fun r => ((rowsG cs vin its).getD r.toNat []).getD b false) := by
    rw [Bool.eq_iff_iff, List.all_eq_true, List.all_eq_true]
    constructor
    · intro h r hr
      obtain ⟨h1, h2⟩ := hbe a ha r hr
      have h3 := h r.toNat (List.mem_range.2 (by omega))
      have h4 := (reads_iff2 (n := cs.length) hLn hu ha (show r.toNat < cs.length by omega) (by omega)).2 (by rw [show ((r.toNat : Nat) : Int) = r by omega]; exact hr)
      rw [h4] at h3
      simpa using h3
    · intro h c hc
      have hc := List.mem_range.1 hc
      cases hr : rdsF ((inOrd cs (lineF cs vin its)).getD c noNc) ((inOrd cs (lineF cs vin its)).getD a noNc).n.out with
      | false => rfl
      | true =>
        have hac := after c hc hr
        have h4 := (reads_iff2 (n := cs.length) hLn hu ha hc hac).1 hr
        have h5 := h (c : Int) h4
        rw [Int.toNat_natCast] at h5
        rw [h5]
        rfl
  unfold ddF doneF
  rw [hout, hall]
  cases (outG cs vin vout its).getD a false <;> cases ((rowsG cs vin its).getD a []).getD b false <;> simp

set_option maxRecDepth 100000 in
set_option maxHeartbeats 6400000 in
theorem dapart_any (g : Gra) (cs : List Nc) (vin vout : List (Val × List Int)) (its : List (Nam × List Int × List Int)) (a b : Int) (w : World) (hg : GraphOk w g cs vin vout its) :
    Calls Tryd.prog 15 #[gval g, .int .i64 a, .int .i64 b] w fun e w' => Aps cs vin vout its a b w e w' := by
  have SO := hide (fun (wx : World) (hx : w.grownBy wx none) => sorted_any g cs vin vout its wx (hg.more hx))
  have DB := hide (fun (wx : World) (hx : w.grownBy wx none) => dbefore_any g cs vin vout its wx (hg.more hx))
  have HG := hide hg
  have HDD := hide (fun (hz : (orderR cs vin vout its).2 = 0) (x y : Nat) (hx : x < cs.length) => dd_done (b := y) hg hz hx)
  have e3 : g.ov.n = vout.length := by obtain ⟨_, _, e, -⟩ := hg.base.outs.form; rw [List.length_map] at e; simp only [Sl.v, Value.slice.injEq] at e; exact e.2.1
  obtain ⟨f1, f2, f3, f4⟩ := hg.base.few
  obtain ⟨nam, ⟨na0, nn0, nc0⟩, ⟨ia, iN, ic⟩, ⟨oa, oN, oc⟩, ⟨ta, tN, tc⟩⟩ := g
  clear hg e3
  unfold gval at SO DB ⊢
  simp only at SO DB ⊢
  obtain ⟨w0, hw0⟩ : ∃ w0, w0 = w.alloc (.cells #[.string nam, .slice na0 nn0 nc0, .slice ia iN ic, .slice oa oN oc, .slice ta tN tc] 26) := ⟨_, rfl⟩
  have g0 : w.grownBy w0 none := by rw [hw0]; exact grown_new _ _
  have b0 := heap_alloc_new w (.cells #[.string nam, .slice na0 nn0 nc0, .slice ia iN ic, .slice oa oN oc, .slice ta tN tc] 26)
  obtain ⟨r0, r1, r2, r3, r4⟩ := gra_cells (g := ⟨nam, ⟨na0, nn0, nc0⟩, ⟨ia, iN, ic⟩, ⟨oa, oN, oc⟩, ⟨ta, tN, tc⟩⟩) b0
  rw [← hw0] at b0
  have BX : Hid (∀ wx, w0.grownBy wx none → wx.heap[w.heap.size]? = some (.cells #[.string nam, .slice na0 nn0 nc0, .slice ia iN ic, .slice oa oN oc, .slice ta tN tc] 26 (0, 0))) := fun wx hx => box_kept b0 hx
  go_enter Tryd.func15, Tryd.ntmps15
  go_wp2_with fail
  rw [← hw0]
  clear hw0 b0 r0 r1 r2 r3 r4
  refine (SO.out w0 g0).mono ?_
  rintro e w1 ⟨hg1, ⟨hz, rfl⟩ | ⟨hz, ⟨ua, un, uc⟩, rfl, hown⟩⟩
  · have HZ : Hid (∀ w', w.grownBy w' none → Aps cs vin vout its a b w (.returned (.tuple #[.bool false, .int .i64 (orderR cs vin vout its).2])) w') := fun w' h => ⟨h, Or.inl ⟨hz, rfl⟩⟩
    obtain ⟨OE, hOE⟩ : ∃ OE, OE = (orderR cs vin vout its).2 := ⟨_, rfl⟩
    rw [← hOE] at HZ hz ⊢
    have hzb : (OE != 0) = true := by simpa using hz
    have g1 := grown_trans g0 hg1
    clear hOE hz SO DB HDD
    go_wp2_with fail
    go_ret2
    exact HZ.out _ (grown_trans g1 (grown_new _ _))
  · obtain ⟨k1, k2, k3, k4, k5⟩ := orderR_ok hz
    obtain ⟨m1, m2, -⟩ := line_law (cs := cs) (vin := vin) (its := its) (fun c hc => (HG.out.is c hc).1) (fun c hc x hx => by
      have hfo := k4
      unfold foundF at hfo
      simp only [Bool.and_eq_true, List.all_eq_true] at hfo
      have := hfo.2 c hc
      unfold allF at this
      rw [List.all_eq_true] at this
      exact this x hx)
    have hLn : (inOrd cs (lineF cs vin its)).length = cs.length := by rw [inOrd_len]; exact k2
    have g1 := grown_trans g0 hg1
    have HNO : Hid (∀ e w', w.grownBy w' none → ¬ (0 ≤ a ∧ a < cs.length ∧ 0 ≤ b ∧ b < cs.length ∧ a ≠ b) → e = .returned (.tuple #[.bool false, .int .i64 1]) → Aps cs vin vout its a b w e w') := fun e w' h1 h2 h3 => ⟨h1, Or.inr (Or.inl ⟨hz, h2, h3⟩)⟩
    have HYE : Hid (∀ e w', w.grownBy w' none → (0 ≤ a ∧ a < cs.length ∧ 0 ≤ b ∧ b < cs.length ∧ a ≠ b) → e = .returned (.tuple #[.bool (apartF (readG cs vin its) (outG cs vin vout its) (rowsG cs vin its) a.toNat b.toNat), .int .i64 0]) → Aps cs vin vout its a b w e w') := fun e w' h1 h2 h3 => ⟨h1, Or.inr (Or.inr ⟨hz, h2, h3⟩)⟩
    have DD := hide (fun x y hx => HDD.out hz x y hx)
    have HIN : Hid (∀ c, c < cs.length → ∀ wx, w.grownBy wx none → IsStrs wx ((inOrd cs (lineF cs vin its)).getD c noNc).n.iv.v ((inOrd cs (lineF cs vin its)).getD c noNc).ins) := fun c hc wx hx => by
      have hmem : (inOrd cs (lineF cs vin its)).getD c noNc ∈ cs := inOrd_mem m2 _ (by rw [List.getD, List.getElem?_eq_getElem (by rw [hLn]; exact hc)]; exact List.getElem_mem _)
      exact ((HG.out.more hx).base.node _ hmem).ins
    have ISN := hide (OwnsL.isL (bytes := 96) ncells_len hown (by rw [List.length_map, hLn]; omega))
    obtain ⟨xa, xc, hsv, -⟩ := ISN.out.form
    obtain ⟨rfl, rfl, rfl⟩ : ua = xa ∧ un = ((inOrd cs (lineF cs vin its)).map (·.n)).length ∧ uc = xc := by simpa [Sl.v] using hsv
    have hlm : ((inOrd cs (lineF cs vin its)).map (·.n)).length = cs.length := by rw [List.length_map]; exact hLn
    simp only [hlm] at ISN ⊢
    have HLN := hide hLn
    have HZ := hide hz
    obtain ⟨ns, hns⟩ : ∃ ns, ns = inOrd cs (lineF cs vin its) := ⟨_, rfl⟩
    rw [← hns] at ISN HLN HIN DD
    obtain ⟨w2, hw2⟩ : ∃ w2, w2 = w1.alloc (.cells #[.string nam, .slice ua cs.length uc, .slice ia iN ic, .slice oa oN oc, .slice ta tN tc] 26) := ⟨_, rfl⟩
    have g2 : w1.grownBy w2 none := by rw [hw2]; exact grown_new _ _
    have hbx := heap_alloc_new w1 (.cells #[.string nam, .slice ua cs.length uc, .slice ia iN ic, .slice oa oN oc, .slice ta tN tc] 26)
    obtain ⟨r0, r1, r2, r3, r4⟩ := gra_cells (g := ⟨nam, ⟨ua, cs.length, uc⟩, ⟨ia, iN, ic⟩, ⟨oa, oN, oc⟩, ⟨ta, tN, tc⟩⟩) hbx
    rw [← hw2] at hbx
    have BH : Hid (∀ wx, w2.grownBy wx none → wx.heap[w1.heap.size]? = some (.cells #[.string nam, .slice ua cs.length uc, .slice ia iN ic, .slice oa oN oc, .slice ta tN tc] 26 (0, 0))) := fun wx hx => box_kept hbx hx
    have G2 := hide (grown_trans g1 g2)
    have G02 := hide (grown_trans hg1 g2)
    have G12 := hide g2
    clear hz k1 k2 k3 k4 m1 m2 hLn hns hown hsv hlm SO HDD hbx g2
    by_cases h1 : a < 0
    · skip
      have hno : Hid (¬ (0 ≤ a ∧ a < cs.length ∧ 0 ≤ b ∧ b < cs.length ∧ a ≠ b)) := fun h => by omega
      go_wp2_with fail
      rw [← hw2]
      go_ret2
      exact HNO.out _ _ G2.out hno.out rfl
    by_cases h2 : b < 0
    · skip
      have hno : Hid (¬ (0 ≤ a ∧ a < cs.length ∧ 0 ≤ b ∧ b < cs.length ∧ a ≠ b)) := fun h => by omega
      go_wp2_with fail
      rw [← hw2]
      go_ret2
      exact HNO.out _ _ G2.out hno.out rfl
    by_cases h3 : (cs.length : Int) ≤ a
    · skip
      have hno : Hid (¬ (0 ≤ a ∧ a < cs.length ∧ 0 ≤ b ∧ b < cs.length ∧ a ≠ b)) := fun h => by omega
      go_wp2_with fail
      rw [← hw2]
      go_ret2
      exact HNO.out _ _ G2.out hno.out rfl
    by_cases h4 : (cs.length : Int) ≤ b
    · skip
      have hno : Hid (¬ (0 ≤ a ∧ a < cs.length ∧ 0 ≤ b ∧ b < cs.length ∧ a ≠ b)) := fun h => by omega
      go_wp2_with fail
      rw [← hw2]
      go_ret2
      exact HNO.out _ _ G2.out hno.out rfl
    cases h5 : (a == b) with
    | true =>
      have hno : Hid (¬ (0 ≤ a ∧ a < cs.length ∧ 0 ≤ b ∧ b < cs.length ∧ a ≠ b)) := fun h => h.2.2.2.2 (by simpa using h5)
      go_wp2_with fail
      rw [← hw2]
      go_ret2
      exact HNO.out _ _ G2.out hno.out rfl
    | false =>
      have hyes : Hid (0 ≤ a ∧ a < cs.length ∧ 0 ≤ b ∧ b < cs.length ∧ a ≠ b) := ⟨by omega, by omega, by omega, by omega, by simpa using h5⟩
      obtain ⟨m, rfl⟩ : ∃ m : Nat, a = (m : Int) := ⟨a.toNat, by omega⟩
      obtain ⟨k, rfl⟩ : ∃ k : Nat, b = (k : Int) := ⟨b.toNat, by omega⟩
      have hm : m < cs.length := by omega
      have hk : k < cs.length := by omega
      rw [hw2] at G02
      obtain ⟨s0, s1, s2, s3, s4⟩ := gra_cells (g := ⟨nam, ⟨na0, nn0, nc0⟩, ⟨ia, iN, ic⟩, ⟨oa, oN, oc⟩, ⟨ta, tN, tc⟩⟩) (BX.out _ G02.out)
      rw [← hw2] at G02
      go_wp2_with fail
      rw [← hw2]
      clear hw2 r0 r1 r2 r3 r4 s0 s1 s2 s3 s4
      refine (DB.out w2 G2.out).mono ?_
      rintro e w3 ⟨hg3, ⟨hz3, -⟩ | ⟨-, Q, q, rfl, hrb⟩⟩
      · exact absurd HZ.out hz3
      · have HRB := hide hrb
        clear hrb
        have G3 := hide (grown_trans G2.out hg3)
        have DN := hide (fun (x y : Nat) (hx : x < cs.length) (hy : y < cs.length) (wx : World) (hw : w3.grownBy wx none) => ddone_any nam ⟨ua, cs.length, uc⟩ ⟨ia, iN, ic⟩ ⟨oa, oN, oc⟩ ⟨ta, tN, tc⟩ ns vout Q cs.length x y q (rowsG cs vin its) wx (ISN.out.more (grown_trans G12.out (grown_trans hg3 hw))) HLN.out (HG.out.base.outs.more (grown_trans G3.out hw)) (fun c hc wy hy2 => HIN.out c hc wy (grown_trans (grown_trans G3.out hw) hy2)) (HRB.out.more hw) hx hy f1 f3)
        simp only at DN
        have D1 := hide (DN.out m k hm hk w3 (grown_refl _))
        have D2 := hide (fun wx hw => DN.out k m hk hm wx hw)
        rw [DD.out m k hm] at D1
        rw [DD.out k m hk] at D2
        have HA : Hid (apartF (readG cs vin its) (outG cs vin vout its) (rowsG cs vin its) ((m : Int)).toNat ((k : Int)).toNat = (doneF (readG cs vin its) (outG cs vin vout its) (rowsG cs vin its) m k || doneF (readG cs vin its) (outG cs vin vout its) (rowsG cs vin its) k m)) := by show _ = _; rw [Int.toNat_natCast, Int.toNat_natCast]; rfl
        rw [HA.out] at HYE
        obtain ⟨x, hx⟩ : ∃ x, x = doneF (readG cs vin its) (outG cs vin vout its) (rowsG cs vin its) m k := ⟨_, rfl⟩
        obtain ⟨y, hy⟩ : ∃ y, y = doneF (readG cs vin its) (outG cs vin vout its) (rowsG cs vin its) k m := ⟨_, rfl⟩
        rw [← hx] at D1 HYE
        rw [← hy] at D2 HYE
        clear hx hy HA DN
        obtain ⟨r0, r1, r2, r3, r4⟩ := gra_cells (g := ⟨nam, ⟨ua, cs.length, uc⟩, ⟨ia, iN, ic⟩, ⟨oa, oN, oc⟩, ⟨ta, tN, tc⟩⟩) (BH.out w3 hg3)
        go_wp2_with fail
        clear r0 r1 r2 r3 r4
        refine D1.out.mono ?_
        rintro e w4 ⟨rfl, hg4⟩
        obtain ⟨r0, r1, r2, r3, r4⟩ := gra_cells (g := ⟨nam, ⟨ua, cs.length, uc⟩, ⟨ia, iN, ic⟩, ⟨oa, oN, oc⟩, ⟨ta, tN, tc⟩⟩) (BH.out w4 (grown_trans hg3 hg4))
        cases x with
        | true =>
          go_wp2_with fail
          go_ret2
          exact HYE.out _ _ (grown_trans G3.out hg4) hyes.out rfl
        | false =>
          go_wp2_with fail
          clear r0 r1 r2 r3 r4
          refine (D2.out w4 hg4).mono ?_
          rintro e w5 ⟨rfl, hg5⟩
          go_wp2_with fail
          go_ret2
          exact HYE.out _ _ (grown_trans (grown_trans G3.out hg4) hg5) hyes.out rfl
end Go.Proofs.YtmdpeckeliplkaaDoor
