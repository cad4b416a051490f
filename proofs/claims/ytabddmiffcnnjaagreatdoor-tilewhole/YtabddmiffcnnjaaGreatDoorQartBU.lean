/- Joined texts: TPart, TLive, LTStepsW, LTWholeW. -/
import Derived.Test.YtabddmiffcnnjaaGreatDoorQartBT
import Derived.Test.YtabddmiffcnnjaaGreatDoorQartBS
import Derived.Test.YtabddmiffcnnjaaGreatDoorQartAB
import Derived.Test.YtabddmiffcnnjaaGreatDoorQartBD
import Derived.Test.YtabddmiffcnnjaaGreatDoorQartBI
namespace Go.Proofs.YtabddmiffcnnjaaGreatDoor

open Go.RowKit

theorem w64_le (n : Int) : -9223372036854775808 ≤ wrap64 n ∧ wrap64 n ≤ 9223372036854775807 := by
  unfold wrap64
  omega

theorem div6 (a b : Int) : -9223372036854775808 ≤ (Nu.bin 3 6 a b).1 ∧ (Nu.bin 3 6 a b).1 ≤ 9223372036854775807 := by
  unfold Nu.bin
  split
  · show _ ∧ _
    by_cases hb : b = 0
    · simp [Nu.binIn, hb]
    · simp only [Nu.binIn, hb, if_false]
      exact w64_le _
  · simp

theorem wDiv : Work2 ⟨#[68, 105, 118]⟩ 3 := fun n hop p1 p2 B ub uo un uc ty x y w hn hi hun ht hx hy => work2_Div n hop p1 p2 B ub uo un uc ty x y w hn hi hun ht hx hy

theorem blk_ints {w : World} {B te : Nat} {zs : List Int} (h : w.heap[B]? = some (.cells (zs.map (Value.int .i64)).toArray te (0, 0))) (hl : zs.length ≤ 1000) (hz : ∀ z ∈ zs, -1000 ≤ z ∧ z ≤ 1000) : IsInts w (.slice (some ⟨B, 0, none⟩) zs.length zs.length) zs := by
  refine ⟨_, _, rfl, Nat.le_refl _, by omega, by omega, (fun h => by cases h), fun _ => ⟨B, 0, rfl, fun t ht => ?_⟩, fun z h => by have := hz z h; omega⟩
  rw [Nat.zero_add, cell_of_row _ _ t _ _ (0, 0) h]
  simp [List.getD, ht]

theorem One1.ints {w : World} {q : Ten × Tq} (h : One1 w q) {z : Int} (e : q.2 = ([1], [z])) (hz : -1000 ≤ z ∧ z ≤ 1000) : IsInts w q.1.dv.v [1] ∧ IsInts w q.1.tv.v [z] := by
  obtain ⟨ty, z', b, c, rfl, hb, hc⟩ := h
  simp only [Prod.mk.injEq, List.cons.injEq, and_true, true_and] at e
  subst e
  exact ⟨blk_ints (zs := [1]) hb (by simp) (by simp), blk_ints (zs := [z']) hc (by simp) (by simpa using hz)⟩

theorem q_six_two : el2 ⟨#[68, 105, 118]⟩ 3 6 6 [1] [1] [6] [2] = .ok (6, [1], [3]) := by kernel_rfl
theorem q_six_no : el2 ⟨#[68, 105, 118]⟩ 3 6 6 [1] [1] [6] [0] = .error 7 := by kernel_rfl

theorem node_two (d0 t0 d1 t1 : Sl) : nodeP [((⟨6, d0, t0⟩ : Ten), (([2], [6, 6]) : Tq)), (⟨6, d1, t1⟩, ([2], [2, 0]))] (out2F ⟨#[68, 105, 118]⟩ 6 6 [2] [2]) = .ok (6, [2]) := by kernel_rfl

theorem made_cut (iv : Sl) (va : Option Addr) (vc : Nat) (qs : List (Ten × Tq)) (x y : Int) (r : R (Int × List Int × List Int)) (w w0 : World) (hl : Laid w) (hT : SpTab w) (hi : IsStrs w iv.v [⟨#[120]⟩, ⟨#[121]⟩]) (hO : OwnsL 38 3 tcells w w0.heap.size (.slice va 2 vc) (qs.map (·.1))) (h1 : ∀ q ∈ qs, One1 w q) (hq : qs.map (fun q => (q.1.ty, q.2)) = [(6, ([1], [x])), (6, ([1], [y]))]) (hx : -1000 ≤ x ∧ x ≤ 1000) (hy : -1000 ≤ y ∧ y ≤ 1000) (hr : el2 ⟨#[68, 105, 118]⟩ 3 6 6 [1] [1] [x] [y] = r) (hn : ∀ c, r = .error c → c ≠ 0) (hz : ∀ ty l zs, r = .ok (ty, l, zs) → zs.length = 1) :
    Calls Tryz.prog 13 #[nval ⟨⟨#[68, 105, 118]⟩, ⟨#[]⟩, iv, ⟨#[122]⟩, nilS⟩, .slice va 2 vc, .int .i64 0, .int .i64 1] w (OneQ w (oneR r)) := by
  match qs, hq, hO, h1 with
  | [(⟨ta, da, ea⟩, pa), (⟨tb, db, eb⟩, pb)], hq, hO, h1 =>
    simp only [List.map_cons, List.map_nil, List.cons.injEq, Prod.mk.injEq, and_true] at hq
    obtain ⟨⟨rfl, rfl⟩, ⟨rfl, rfl⟩⟩ := hq
    have hv : TensIn w (Sl.v ⟨va, 2, vc⟩) [((⟨6, da, ea⟩ : Ten), (([1], [x]) : Tq)), (⟨6, db, eb⟩, ([1], [y]))] := by
      refine ⟨OwnsL.isL (bytes := 56) tcells_len hO (by simp), fun p hp => ?_⟩
      have o1 := h1 p hp
      simp only [List.mem_cons, List.not_mem_nil, or_false] at hp
      rcases hp with rfl | rfl
      · exact o1.ints rfl hx
      · exact o1.ints rfl hy
    refine tmade_one ⟨#[]⟩ ⟨#[122]⟩ iv ⟨va, 2, vc⟩ r w hz hn fun wx hx => semdo_div ⟨#[]⟩ ⟨#[122]⟩ iv ⟨va, 2, vc⟩ r wx (hl.more hx) (hT.more hx) hn fun wy hy => ?_
    have key := elem2 ⟨#[68, 105, 118]⟩ ⟨#[122]⟩ iv ⟨#[120]⟩ ⟨#[121]⟩ 3 (by simp) wDiv (by kernel_rfl) (by decide) ⟨va, 2, vc⟩ ⟨6, da, ea⟩ ⟨6, db, eb⟩ [1] [1] [x] [y] wy (hl.more (grown_trans hx hy)) (hi.more (grown_trans hx hy)) (hv.more (grown_trans hx hy)) div6
    rw [show el2 ⟨#[68, 105, 118]⟩ 3 (Ten.ty ⟨6, da, ea⟩) (Ten.ty ⟨6, db, eb⟩) [1] [1] [x] [y] = r from hr] at key
    exact key

set_option maxRecDepth 100000 in
set_option maxHeartbeats 6400000 in
theorem part_0 (iv u d0 t0 d1 t1 : Sl) (w : World) (hl : Laid w) (hT : SpTab w) (hi : IsStrs w iv.v [⟨#[120]⟩, ⟨#[121]⟩]) (hv : TensIn w u.v [(⟨6, d0, t0⟩, ([2], [6, 6])), (⟨6, d1, t1⟩, ([2], [2, 0]))]) :
    Calls Tryz.prog 9 #[nval ⟨⟨#[68, 105, 118]⟩, ⟨#[]⟩, iv, ⟨#[122]⟩, nilS⟩, .slice u.a u.n u.c, .int .i64 0, .int .i64 1] w (OneQ w (.ok 3)) := by
  have NC : Hid (∀ wx, w.grownBy wx none → Calls Tryz.prog 10 #[nval ⟨⟨#[68, 105, 118]⟩, ⟨#[]⟩, iv, ⟨#[122]⟩, nilS⟩, .slice u.a u.n u.c] wx (AttQ ⟨#[122]⟩ wx (.ok (6, [2])))) := fun wx hx => by
    have h := bnode_any ⟨⟨#[68, 105, 118]⟩, ⟨#[]⟩, iv, ⟨#[122]⟩, nilS⟩ u [(⟨6, d0, t0⟩, ([2], [6, 6])), (⟨6, d1, t1⟩, ([2], [2, 0]))] (out2F ⟨#[68, 105, 118]⟩ 6 6 [2] [2]) wx (hv.more hx) (by simp) fun wz s vs hz hvs h1 h2 => by
      obtain ⟨v0, v1, rfl, e0, e1⟩ := two_vals h1 h2
      have key := eout2 ⟨#[68, 105, 118]⟩ ⟨#[122]⟩ iv ⟨#[120]⟩ ⟨#[121]⟩ (by simp) (by kernel_rfl) (by decide) s v0 v1 [2] [2] wz (hl.more (grown_trans hx hz)) (hi.more (grown_trans hx hz)) hvs
      rw [e0, e1] at key
      exact key
    rw [node_two] at h
    exact h
  have EC : Hid (∀ (wx : World) (dv : Sl), w.grownBy wx none → IsInts wx dv.v [2] → Calls Tryz.prog 14 #[.slice u.a u.n u.c, .slice dv.a dv.n dv.c, .int .i64 0, .int .i64 1] wx fun e w' => wx.grownBy w' none ∧ ∃ (qs : List (Ten × Tq)) (va : Option Addr) (vc : Nat), e = .returned (.slice va 2 vc) ∧ OwnsL 38 3 tcells w' wx.heap.size (.slice va 2 vc) (qs.map (·.1)) ∧ (∀ q ∈ qs, One1 w' q) ∧ qs.map (fun q => (q.1.ty, q.2)) = [(6, ([1], [6])), (6, ([1], [2]))]) := fun wx dv hx hd =>
    each_0 u dv _ wx (hv.more hx) (by simp) (fun p hp => by
      simp only [List.mem_cons, List.not_mem_nil, or_false] at hp
      rcases hp with rfl | rfl
      · exact ⟨6, 6, rfl⟩
      · exact ⟨2, 0, rfl⟩) hd
  have MC : Hid (∀ (wx wy : World) (va : Option Addr) (vc : Nat) (qs : List (Ten × Tq)), w.grownBy wx none → OwnsL 38 3 tcells wx wy.heap.size (.slice va 2 vc) (qs.map (·.1)) → (∀ q ∈ qs, One1 wx q) → qs.map (fun q => (q.1.ty, q.2)) = [(6, ([1], [6])), (6, ([1], [2]))] → Calls Tryz.prog 13 #[nval ⟨⟨#[68, 105, 118]⟩, ⟨#[]⟩, iv, ⟨#[122]⟩, nilS⟩, .slice va 2 vc, .int .i64 0, .int .i64 1] wx (OneQ wx (.ok 3))) := fun wx wy va vc qs hx hO h1 hq =>
    made_cut iv va vc qs 6 2 (.ok (6, [1], [3])) wx wy (hl.more hx) (hT.more hx) (hi.more hx) hO h1 hq (by decide) (by decide) q_six_two (by intro c h; cases h; try decide) (by intro ty l zs h; cases h; try rfl)
  obtain ⟨w0, hw0⟩ : ∃ w0, w0 = w.alloc (.cells #[.string ⟨#[68, 105, 118]⟩, .string ⟨#[]⟩, .slice iv.a iv.n iv.c, .string ⟨#[122]⟩, .slice none 0 0] 34) := ⟨_, rfl⟩
  have hb0 := heap_alloc_new w (.cells #[.string ⟨#[68, 105, 118]⟩, .string ⟨#[]⟩, .slice iv.a iv.n iv.c, .string ⟨#[122]⟩, .slice none 0 0] 34)
  have g0 : w.grownBy w0 none := by rw [hw0]; exact grown_new _ _
  rw [← hw0] at hb0
  have N0 := hide (NC.out w0 g0)
  have G0 := hide g0
  have B0 := hide hb0
  clear hl hT hi hv NC g0
  obtain ⟨ia, il, ic⟩ := iv
  obtain ⟨ua, un, uc⟩ := u
  unfold nval nilS at N0 MC
  unfold nval nilS
  simp only at N0 MC EC hw0 hb0 B0 ⊢
  obtain ⟨m0, m1, m2, m3, m4⟩ := nod_cells (n := ⟨⟨#[68, 105, 118]⟩, ⟨#[]⟩, ⟨ia, il, ic⟩, ⟨#[122]⟩, nilS⟩) hb0
  unfold nilS at m4
  simp only at m0 m1 m2 m3 m4
  clear hb0
  go_enter Tryz.func9, Tryz.ntmps9
  go_wp2_with fail
  rw [← hw0]
  clear hw0 m0 m1 m2 m3 m4
  refine N0.out.mono ?_
  rintro e w1 ⟨hg1, ⟨sa, sn, sc⟩, rfl, hs⟩
  simp only
  have hd1 := hs.ints
  clear hs
  obtain ⟨w2, hw2⟩ : ∃ w2, w2 = w1.alloc (.cells #[.string ⟨#[122]⟩, .int .i64 6, .slice sa sn sc] 43) := ⟨_, rfl⟩
  have hb2 := heap_alloc_new w1 (.cells #[.string ⟨#[122]⟩, .int .i64 6, .slice sa sn sc] 43)
  have g12 : w1.grownBy w2 none := by rw [hw2]; exact grown_new _ _
  rw [← hw2] at hb2
  have g02 := grown_trans hg1 g12
  have G2 := hide (grown_trans G0.out g02)
  have D2 := hide (hd1.more g12)
  obtain ⟨n0, n1, n2, n3, n4⟩ := nod_cells (n := ⟨⟨#[68, 105, 118]⟩, ⟨#[]⟩, ⟨ia, il, ic⟩, ⟨#[122]⟩, nilS⟩) (box_kept B0.out g02)
  unfold nilS at n4
  simp only at n0 n1 n2 n3 n4
  obtain ⟨v0, v1, v2⟩ := ten_cells hb2
  have CN := hide (count_any _ _ w2 D2.out)
  have CK := hide (byelement_div w2)
  have E2 := hide (EC.out w2.drew ⟨sa, sn, sc⟩ (grown_drew G2.out) (D2.out.more (grown_drew (grown_refl _))))
  simp only [Sl.v] at CN
  rw [show cnt [2] = 2 from by kernel_rfl, show cntE [2] = 0 from by kernel_rfl] at CN
  clear hd1 g02 g12 hg1 hb2 N0 EC
  go_wp2_with fail
  rw [← hw2]
  clear hw2
  refine CN.out.mono ?_
  rintro e w3 ⟨rfl, rfl⟩
  go_wp2_with fail
  refine CK.out.mono ?_
  rintro e w3 ⟨rfl, rfl⟩
  go_wp2_with fail
  refine wp_region_held_drew (S := fun w' => w2.grownBy w' none) (by kernel_rfl) (grown_drew (grown_refl _)) (fun hHeld => ?_)
  refine wpAnyH_take (i := 0) (v := ?_) rfl (by kernel_rfl) (by kernel_rfl) (by kernel_rfl) (fun _ _ _ h => h) (Or.inl ⟨by kernel_rfl, ?_⟩) (by assumption) ?_
  rotate_left 1
  · (intro wS hSw; have c0 := cell_still n0 hSw; have c1 := cell_still n1 hSw; have c2 := cell_still n2 hSw; have c3 := cell_still n3 hSw; have c4 := cell_still n4 hSw; go_simp; (try with_reducible rfl))
  try simp only [Act.put]
  refine wpAnyH_take (i := 1) (v := ?_) rfl (by kernel_rfl) (by kernel_rfl) (by kernel_rfl) (fun _ _ _ h => h) (Or.inl ⟨by kernel_rfl, ?_⟩) (by assumption) ?_
  rotate_left 1
  · (intro wS hSw; go_simp; (try with_reducible rfl))
  try simp only [Act.put]
  refine wpAnyH_take (i := 2) (v := ?_) rfl (by kernel_rfl) (by kernel_rfl) (by kernel_rfl) (fun _ _ _ h => h) (Or.inl ⟨by kernel_rfl, ?_⟩) (by assumption) ?_
  rotate_left 1
  · (intro wS hSw; go_simp; (try with_reducible rfl))
  try simp only [Act.put]
  refine wpAnyH_take (i := 3) (v := ?_) rfl (by kernel_rfl) (by kernel_rfl) (by kernel_rfl) (fun _ _ _ h => h) (Or.inl ⟨by kernel_rfl, ?_⟩) (by assumption) ?_
  rotate_left 1
  · (intro wS hSw; have c0 := cell_still v2 hSw; go_simp; (try with_reducible rfl))
  try simp only [Act.put]
  refine wpAnyH_take (i := 4) (v := ?_) rfl (by kernel_rfl) (by kernel_rfl) (by kernel_rfl) (fun _ _ _ h => h) (Or.inl ⟨by kernel_rfl, ?_⟩) (by assumption) ?_
  rotate_left 1
  · (intro wS hSw; go_simp; (try with_reducible rfl))
  try simp only [Act.put]
  refine wpAnyH_take (i := 5) (v := ?_) rfl (by kernel_rfl) (by kernel_rfl) (by kernel_rfl) (fun _ _ _ h => h) (Or.inl ⟨by kernel_rfl, ?_⟩) (by assumption) ?_
  rotate_left 1
  · (intro wS hSw; go_simp; (try with_reducible rfl))
  try simp only [Act.put]
  refine wpAnyH_take (i := 7) (v := ?_) rfl (by kernel_rfl) (by kernel_rfl) (by kernel_rfl) (fun _ _ _ h => h) (Or.inl ⟨by kernel_rfl, ?_⟩) (by assumption) ?_
  rotate_left 1
  · (intro wS hSw; go_simp; (try with_reducible rfl))
  try simp only [Act.put]
  refine wpAnyH_take (i := 8) (v := ?_) rfl (by kernel_rfl) (by kernel_rfl) (by kernel_rfl) (fun _ _ _ h => h) (Or.inl ⟨by kernel_rfl, ?_⟩) (by assumption) ?_
  rotate_left 1
  · (intro wS hSw; go_simp; (try with_reducible rfl))
  try simp only [Act.put]
  refine wpAnyH_take (i := 9) (v := .int .i64 1) rfl (by kernel_rfl) (by kernel_rfl) (by kernel_rfl) (fun _ _ _ h => h) (Or.inl ⟨by kernel_rfl, ?_⟩) (by assumption) ?_
  · (intro wS hSw; go_simp; (try simp only [show IntKind.wrap .i64 1 = 1 from rfl]))
  try simp only [Act.put]
  refine wpAnyH_ready (rs := [6]) (by kernel_rfl) (by simp) ?_
  refine AllReadyH.cons rfl (fun K hK => ?_) AllReadyH.nil
  go_simp
  refine E2.out.mono ?_
  rintro e w4 ⟨g4, qs, va, vc, rfl, hO, h1, hq⟩
  have g24 : w2.grownBy w4 none := drew_left g4
  have M4 := hide (MC.out w4 w2.drew va vc qs (grown_trans G2.out g24) hO h1 hq)
  clear hO h1 hq g4
  refine hK.out _ _ g24 (fun hHeld => ?_)
  clear hK K
  try simp only [Act.put]
  refine wpAnyH_ready (rs := [10]) (by kernel_rfl) (by simp) ?_
  refine AllReadyH.cons rfl (fun K hK => ?_) AllReadyH.nil
  go_simp
  refine M4.out.mono ?_
  rintro e w5 ⟨g5, hq5⟩
  have g25 : w2.grownBy w5 none := grown_trans g24 g5
  have GF := hide (grown_trans G2.out g25)
  obtain ⟨rb, ro, rfl, hc5⟩ := hq5
  have HC5 := hide hc5
  clear hc5
  refine hK.out _ _ g25 (fun hHeld => ?_)
  clear hK K
  try simp only [Act.put]
  refine wpAnyH_take (i := 11) (v := ?_) rfl (by kernel_rfl) (by kernel_rfl) (by kernel_rfl) (fun _ _ _ h => h) (Or.inl ⟨by kernel_rfl, ?_⟩) (by assumption) ?_
  rotate_left 1
  · (intro wS hSw; go_simp; (try with_reducible rfl))
  try simp only [Act.put]
  refine wpAnyH_take (i := 12) (v := ?_) rfl (by kernel_rfl) (by kernel_rfl) (by kernel_rfl) (fun _ _ _ h => h) (Or.inl ⟨by kernel_rfl, ?_⟩) (by assumption) ?_
  rotate_left 1
  · (intro wS hSw; go_simp; (try with_reducible rfl))
  try simp only [Act.put]
  refine wpAnyH_take (i := 13) (v := ?_) rfl (by kernel_rfl) (by kernel_rfl) (by kernel_rfl) (fun _ _ _ h => h) (Or.inl ⟨by kernel_rfl, ?_⟩) (by assumption) ?_
  rotate_left 1
  · (intro wS hSw; go_simp; (try with_reducible rfl))
  try simp only [Act.put]
  refine wpAnyH_take (i := 14) (v := ?_) rfl (by kernel_rfl) (by kernel_rfl) (by kernel_rfl) (fun _ _ _ h => h) (Or.inl ⟨by kernel_rfl, ?_⟩) (by assumption) ?_
  rotate_left 1
  · (intro wS hSw; go_simp; (try with_reducible rfl))
  try simp only [Act.put]
  refine wpAnyH_done (by kernel_rfl) ?_ _
  clear hHeld g25 g24 g5 n0 n1 n2 n3 n4 v0 v1 v2
  go_simp
  go_wp2_with fail
  go_ret2
  exact ⟨GF.out, rb, ro, rfl, HC5.out⟩

set_option maxRecDepth 100000 in
set_option maxHeartbeats 6400000 in
theorem part_1 (iv u d0 t0 d1 t1 : Sl) (w : World) (hl : Laid w) (hT : SpTab w) (hi : IsStrs w iv.v [⟨#[120]⟩, ⟨#[121]⟩]) (hv : TensIn w u.v [(⟨6, d0, t0⟩, ([2], [6, 6])), (⟨6, d1, t1⟩, ([2], [2, 0]))]) :
    Calls Tryz.prog 9 #[nval ⟨⟨#[68, 105, 118]⟩, ⟨#[]⟩, iv, ⟨#[122]⟩, nilS⟩, .slice u.a u.n u.c, .int .i64 1, .int .i64 2] w (OneQ w (.error 7)) := by
  have NC : Hid (∀ wx, w.grownBy wx none → Calls Tryz.prog 10 #[nval ⟨⟨#[68, 105, 118]⟩, ⟨#[]⟩, iv, ⟨#[122]⟩, nilS⟩, .slice u.a u.n u.c] wx (AttQ ⟨#[122]⟩ wx (.ok (6, [2])))) := fun wx hx => by
    have h := bnode_any ⟨⟨#[68, 105, 118]⟩, ⟨#[]⟩, iv, ⟨#[122]⟩, nilS⟩ u [(⟨6, d0, t0⟩, ([2], [6, 6])), (⟨6, d1, t1⟩, ([2], [2, 0]))] (out2F ⟨#[68, 105, 118]⟩ 6 6 [2] [2]) wx (hv.more hx) (by simp) fun wz s vs hz hvs h1 h2 => by
      obtain ⟨v0, v1, rfl, e0, e1⟩ := two_vals h1 h2
      have key := eout2 ⟨#[68, 105, 118]⟩ ⟨#[122]⟩ iv ⟨#[120]⟩ ⟨#[121]⟩ (by simp) (by kernel_rfl) (by decide) s v0 v1 [2] [2] wz (hl.more (grown_trans hx hz)) (hi.more (grown_trans hx hz)) hvs
      rw [e0, e1] at key
      exact key
    rw [node_two] at h
    exact h
  have EC : Hid (∀ (wx : World) (dv : Sl), w.grownBy wx none → IsInts wx dv.v [2] → Calls Tryz.prog 14 #[.slice u.a u.n u.c, .slice dv.a dv.n dv.c, .int .i64 1, .int .i64 2] wx fun e w' => wx.grownBy w' none ∧ ∃ (qs : List (Ten × Tq)) (va : Option Addr) (vc : Nat), e = .returned (.slice va 2 vc) ∧ OwnsL 38 3 tcells w' wx.heap.size (.slice va 2 vc) (qs.map (·.1)) ∧ (∀ q ∈ qs, One1 w' q) ∧ qs.map (fun q => (q.1.ty, q.2)) = [(6, ([1], [6])), (6, ([1], [0]))]) := fun wx dv hx hd =>
    each_1 u dv _ wx (hv.more hx) (by simp) (fun p hp => by
      simp only [List.mem_cons, List.not_mem_nil, or_false] at hp
      rcases hp with rfl | rfl
      · exact ⟨6, 6, rfl⟩
      · exact ⟨2, 0, rfl⟩) hd
  have MC : Hid (∀ (wx wy : World) (va : Option Addr) (vc : Nat) (qs : List (Ten × Tq)), w.grownBy wx none → OwnsL 38 3 tcells wx wy.heap.size (.slice va 2 vc) (qs.map (·.1)) → (∀ q ∈ qs, One1 wx q) → qs.map (fun q => (q.1.ty, q.2)) = [(6, ([1], [6])), (6, ([1], [0]))] → Calls Tryz.prog 13 #[nval ⟨⟨#[68, 105, 118]⟩, ⟨#[]⟩, iv, ⟨#[122]⟩, nilS⟩, .slice va 2 vc, .int .i64 0, .int .i64 1] wx (OneQ wx (.error 7))) := fun wx wy va vc qs hx hO h1 hq =>
    made_cut iv va vc qs 6 0 (.error 7) wx wy (hl.more hx) (hT.more hx) (hi.more hx) hO h1 hq (by decide) (by decide) q_six_no (by intro c h; cases h; try decide) (by intro ty l zs h; cases h; try rfl)
  obtain ⟨w0, hw0⟩ : ∃ w0, w0 = w.alloc (.cells #[.string ⟨#[68, 105, 118]⟩, .string ⟨#[]⟩, .slice iv.a iv.n iv.c, .string ⟨#[122]⟩, .slice none 0 0] 34) := ⟨_, rfl⟩
  have hb0 := heap_alloc_new w (.cells #[.string ⟨#[68, 105, 118]⟩, .string ⟨#[]⟩, .slice iv.a iv.n iv.c, .string ⟨#[122]⟩, .slice none 0 0] 34)
  have g0 : w.grownBy w0 none := by rw [hw0]; exact grown_new _ _
  rw [← hw0] at hb0
  have N0 := hide (NC.out w0 g0)
  have G0 := hide g0
  have B0 := hide hb0
  clear hl hT hi hv NC g0
  obtain ⟨ia, il, ic⟩ := iv
  obtain ⟨ua, un, uc⟩ := u
  unfold nval nilS at N0 MC
  unfold nval nilS
  simp only at N0 MC EC hw0 hb0 B0 ⊢
  obtain ⟨m0, m1, m2, m3, m4⟩ := nod_cells (n := ⟨⟨#[68, 105, 118]⟩, ⟨#[]⟩, ⟨ia, il, ic⟩, ⟨#[122]⟩, nilS⟩) hb0
  unfold nilS at m4
  simp only at m0 m1 m2 m3 m4
  clear hb0
  go_enter Tryz.func9, Tryz.ntmps9
  go_wp2_with fail
  rw [← hw0]
  clear hw0 m0 m1 m2 m3 m4
  refine N0.out.mono ?_
  rintro e w1 ⟨hg1, ⟨sa, sn, sc⟩, rfl, hs⟩
  simp only
  have hd1 := hs.ints
  clear hs
  obtain ⟨w2, hw2⟩ : ∃ w2, w2 = w1.alloc (.cells #[.string ⟨#[122]⟩, .int .i64 6, .slice sa sn sc] 43) := ⟨_, rfl⟩
  have hb2 := heap_alloc_new w1 (.cells #[.string ⟨#[122]⟩, .int .i64 6, .slice sa sn sc] 43)
  have g12 : w1.grownBy w2 none := by rw [hw2]; exact grown_new _ _
  rw [← hw2] at hb2
  have g02 := grown_trans hg1 g12
  have G2 := hide (grown_trans G0.out g02)
  have D2 := hide (hd1.more g12)
  obtain ⟨n0, n1, n2, n3, n4⟩ := nod_cells (n := ⟨⟨#[68, 105, 118]⟩, ⟨#[]⟩, ⟨ia, il, ic⟩, ⟨#[122]⟩, nilS⟩) (box_kept B0.out g02)
  unfold nilS at n4
  simp only at n0 n1 n2 n3 n4
  obtain ⟨v0, v1, v2⟩ := ten_cells hb2
  have CN := hide (count_any _ _ w2 D2.out)
  have CK := hide (byelement_div w2)
  have E2 := hide (EC.out w2.drew ⟨sa, sn, sc⟩ (grown_drew G2.out) (D2.out.more (grown_drew (grown_refl _))))
  simp only [Sl.v] at CN
  rw [show cnt [2] = 2 from by kernel_rfl, show cntE [2] = 0 from by kernel_rfl] at CN
  clear hd1 g02 g12 hg1 hb2 N0 EC
  go_wp2_with fail
  rw [← hw2]
  clear hw2
  refine CN.out.mono ?_
  rintro e w3 ⟨rfl, rfl⟩
  go_wp2_with fail
  refine CK.out.mono ?_
  rintro e w3 ⟨rfl, rfl⟩
  go_wp2_with fail
  refine wp_region_held_drew (S := fun w' => w2.grownBy w' none) (by kernel_rfl) (grown_drew (grown_refl _)) (fun hHeld => ?_)
  refine wpAnyH_take (i := 0) (v := ?_) rfl (by kernel_rfl) (by kernel_rfl) (by kernel_rfl) (fun _ _ _ h => h) (Or.inl ⟨by kernel_rfl, ?_⟩) (by assumption) ?_
  rotate_left 1
  · (intro wS hSw; have c0 := cell_still n0 hSw; have c1 := cell_still n1 hSw; have c2 := cell_still n2 hSw; have c3 := cell_still n3 hSw; have c4 := cell_still n4 hSw; go_simp; (try with_reducible rfl))
  try simp only [Act.put]
  refine wpAnyH_take (i := 1) (v := ?_) rfl (by kernel_rfl) (by kernel_rfl) (by kernel_rfl) (fun _ _ _ h => h) (Or.inl ⟨by kernel_rfl, ?_⟩) (by assumption) ?_
  rotate_left 1
  · (intro wS hSw; go_simp; (try with_reducible rfl))
  try simp only [Act.put]
  refine wpAnyH_take (i := 2) (v := ?_) rfl (by kernel_rfl) (by kernel_rfl) (by kernel_rfl) (fun _ _ _ h => h) (Or.inl ⟨by kernel_rfl, ?_⟩) (by assumption) ?_
  rotate_left 1
  · (intro wS hSw; go_simp; (try with_reducible rfl))
  try simp only [Act.put]
  refine wpAnyH_take (i := 3) (v := ?_) rfl (by kernel_rfl) (by kernel_rfl) (by kernel_rfl) (fun _ _ _ h => h) (Or.inl ⟨by kernel_rfl, ?_⟩) (by assumption) ?_
  rotate_left 1
  · (intro wS hSw; have c0 := cell_still v2 hSw; go_simp; (try with_reducible rfl))
  try simp only [Act.put]
  refine wpAnyH_take (i := 4) (v := ?_) rfl (by kernel_rfl) (by kernel_rfl) (by kernel_rfl) (fun _ _ _ h => h) (Or.inl ⟨by kernel_rfl, ?_⟩) (by assumption) ?_
  rotate_left 1
  · (intro wS hSw; go_simp; (try with_reducible rfl))
  try simp only [Act.put]
  refine wpAnyH_take (i := 5) (v := ?_) rfl (by kernel_rfl) (by kernel_rfl) (by kernel_rfl) (fun _ _ _ h => h) (Or.inl ⟨by kernel_rfl, ?_⟩) (by assumption) ?_
  rotate_left 1
  · (intro wS hSw; go_simp; (try with_reducible rfl))
  try simp only [Act.put]
  refine wpAnyH_take (i := 7) (v := ?_) rfl (by kernel_rfl) (by kernel_rfl) (by kernel_rfl) (fun _ _ _ h => h) (Or.inl ⟨by kernel_rfl, ?_⟩) (by assumption) ?_
  rotate_left 1
  · (intro wS hSw; go_simp; (try with_reducible rfl))
  try simp only [Act.put]
  refine wpAnyH_take (i := 8) (v := ?_) rfl (by kernel_rfl) (by kernel_rfl) (by kernel_rfl) (fun _ _ _ h => h) (Or.inl ⟨by kernel_rfl, ?_⟩) (by assumption) ?_
  rotate_left 1
  · (intro wS hSw; go_simp; (try with_reducible rfl))
  try simp only [Act.put]
  refine wpAnyH_take (i := 9) (v := .int .i64 1) rfl (by kernel_rfl) (by kernel_rfl) (by kernel_rfl) (fun _ _ _ h => h) (Or.inl ⟨by kernel_rfl, ?_⟩) (by assumption) ?_
  · (intro wS hSw; go_simp; (try simp only [show IntKind.wrap .i64 1 = 1 from rfl]))
  try simp only [Act.put]
  refine wpAnyH_ready (rs := [6]) (by kernel_rfl) (by simp) ?_
  refine AllReadyH.cons rfl (fun K hK => ?_) AllReadyH.nil
  go_simp
  refine E2.out.mono ?_
  rintro e w4 ⟨g4, qs, va, vc, rfl, hO, h1, hq⟩
  have g24 : w2.grownBy w4 none := drew_left g4
  have M4 := hide (MC.out w4 w2.drew va vc qs (grown_trans G2.out g24) hO h1 hq)
  clear hO h1 hq g4
  refine hK.out _ _ g24 (fun hHeld => ?_)
  clear hK K
  try simp only [Act.put]
  refine wpAnyH_ready (rs := [10]) (by kernel_rfl) (by simp) ?_
  refine AllReadyH.cons rfl (fun K hK => ?_) AllReadyH.nil
  go_simp
  refine M4.out.mono ?_
  rintro e w5 ⟨g5, hq5⟩
  have g25 : w2.grownBy w5 none := grown_trans g24 g5
  have GF := hide (grown_trans G2.out g25)
  simp only at hq5
  subst hq5
  refine hK.out _ _ g25 (fun hHeld => ?_)
  clear hK K
  try simp only [Act.put]
  refine wpAnyH_take (i := 11) (v := ?_) rfl (by kernel_rfl) (by kernel_rfl) (by kernel_rfl) (fun _ _ _ h => h) (Or.inl ⟨by kernel_rfl, ?_⟩) (by assumption) ?_
  rotate_left 1
  · (intro wS hSw; go_simp; (try with_reducible rfl))
  try simp only [Act.put]
  refine wpAnyH_take (i := 12) (v := ?_) rfl (by kernel_rfl) (by kernel_rfl) (by kernel_rfl) (fun _ _ _ h => h) (Or.inl ⟨by kernel_rfl, ?_⟩) (by assumption) ?_
  rotate_left 1
  · (intro wS hSw; go_simp; (try with_reducible rfl))
  try simp only [Act.put]
  refine wpAnyH_take (i := 13) (v := ?_) rfl (by kernel_rfl) (by kernel_rfl) (by kernel_rfl) (fun _ _ _ h => h) (Or.inl ⟨by kernel_rfl, ?_⟩) (by assumption) ?_
  rotate_left 1
  · (intro wS hSw; go_simp; (try with_reducible rfl))
  try simp only [Act.put]
  refine wpAnyH_take (i := 14) (v := ?_) rfl (by kernel_rfl) (by kernel_rfl) (by kernel_rfl) (fun _ _ _ h => h) (Or.inl ⟨by kernel_rfl, ?_⟩) (by assumption) ?_
  rotate_left 1
  · (intro wS hSw; go_simp; (try with_reducible rfl))
  try simp only [Act.put]
  refine wpAnyH_done (by kernel_rfl) ?_ _
  clear hHeld g25 g24 g5 n0 n1 n2 n3 n4 v0 v1 v2
  go_simp
  go_wp2_with fail
  go_ret2
  exact ⟨GF.out, rfl⟩

end Go.Proofs.YtabddmiffcnnjaaGreatDoor

namespace Go.Proofs.YtabddmiffcnnjaaGreatDoor

open Go.RowKit

theorem up_allocT {x : World} {i : Nat} {o : Obj} (p : Obj) (h : x.heap[i]? = some o) : (x.alloc p).heap[i]? = some o := ((grown_new x p).block i (Array.getElem?_eq_some_iff.1 h).1 (by simp)).trans h

theorem new_allocT {x : World} {i : Nat} (p : Obj) (h : x.heap.size = i) : (x.alloc p).heap[i]? = some p ∧ (x.alloc p).heap.size = i + 1 := by
  subst h
  exact ⟨heap_alloc_new x p, by simp⟩

theorem sevenT (w : World) (o0 o1 o2 o3 o4 o5 o6 : Obj) : ∀ W, W = ((((((w.alloc o0).alloc o1).alloc o2).alloc o3).alloc o4).alloc o5).alloc o6 →
    W.heap[w.heap.size]? = some o0 ∧ W.heap[w.heap.size + 1]? = some o1 ∧ W.heap[w.heap.size + 1 + 1]? = some o2 ∧ W.heap[w.heap.size + 1 + 1 + 1]? = some o3 ∧ W.heap[w.heap.size + 1 + 1 + 1 + 1]? = some o4 ∧ W.heap[w.heap.size + 1 + 1 + 1 + 1 + 1]? = some o5 ∧ W.heap[w.heap.size + 1 + 1 + 1 + 1 + 1 + 1]? = some o6 ∧ w.grownBy W none := by
  rintro W rfl
  obtain ⟨a0, z0⟩ := new_allocT o0 (x := w) rfl
  obtain ⟨a1, z1⟩ := new_allocT o1 z0
  obtain ⟨a2, z2⟩ := new_allocT o2 z1
  obtain ⟨a3, z3⟩ := new_allocT o3 z2
  obtain ⟨a4, z4⟩ := new_allocT o4 z3
  obtain ⟨a5, z5⟩ := new_allocT o5 z4
  obtain ⟨a6, z6⟩ := new_allocT o6 z5
  refine ⟨?_, ?_, ?_, ?_, ?_, ?_, a6, ?_⟩
  · exact up_allocT _ (up_allocT _ (up_allocT _ (up_allocT _ (up_allocT _ (up_allocT _ a0)))))
  · exact up_allocT _ (up_allocT _ (up_allocT _ (up_allocT _ (up_allocT _ a1))))
  · exact up_allocT _ (up_allocT _ (up_allocT _ (up_allocT _ a2)))
  · exact up_allocT _ (up_allocT _ (up_allocT _ a3))
  · exact up_allocT _ (up_allocT _ a4)
  · exact up_allocT _ a5
  · exact grown_trans (grown_trans (grown_trans (grown_trans (grown_trans (grown_trans (grown_new _ _) (grown_new _ _)) (grown_new _ _)) (grown_new _ _)) (grown_new _ _)) (grown_new _ _)) (grown_new _ _)

theorem blk_tensT {w : World} {B : Nat} {cur : Array Value} {ps : List (Ten × Tq)} (h : w.heap[B]? = some (.cells cur 38 (0, 0))) (hc : cur.toList = (ps.map (·.1)).flatMap tcells) (hs : cur.size = ps.length * 3) (hl : ps.length ≤ 1000) (hh : ∀ p ∈ ps, IsInts w p.1.dv.v p.2.1 ∧ IsInts w p.1.tv.v p.2.2) : TensIn w (.slice (some ⟨B, 0, none⟩) ps.length ps.length) ps := by
  refine ⟨?_, hh⟩
  have e : ps.length = (ps.map (·.1)).length := by rw [List.length_map]
  rw [e]
  exact lit_isLG (te := 38) (bytes := 56) tcells_len h hc (by rw [hs, e]) (by rw [← e]; omega) (by rw [← e]; omega)

theorem lit_stps {w : World} {B : Nat} (h : w.heap[B]? = some (.cells #[.int .i64 4, .int .i64 0, .int .i64 2, .int .i64 4, .int .i64 2, .int .i64 4, .int .i64 4, .int .i64 4, .int .i64 5] 30 (0, 0))) : IsStps w (.slice (some ⟨B, 0, none⟩) 3 3) [⟨4, 0, 2⟩, ⟨4, 2, 4⟩, ⟨4, 4, 5⟩] :=
  lit_isLG (te := 30) (bytes := 24) (xs := [⟨4, 0, 2⟩, ⟨4, 2, 4⟩, ⟨4, 4, 5⟩]) scells3_len h rfl rfl (by simp) (by simp)

theorem stp_live : stpF 4 5 2 (5 : Int).toNat 0 = [⟨4, 0, 2⟩, ⟨4, 2, 4⟩, ⟨4, 4, 5⟩] := by rfl

set_option maxRecDepth 100000 in
set_option maxHeartbeats 8000000 in
theorem live21_any (w : World) (hl : Laid w) (hT : SpTab w) : Calls Tryz.prog 5 #[] w fun e w' => e = .returned (.bool true) ∧ w.grownBy w' none := by
  obtain ⟨W, hW⟩ : ∃ W, W = ((((((w.alloc (.cells #[.string ⟨#[120]⟩, .string ⟨#[121]⟩] 9)).alloc (.cells #[.string ⟨#[68, 105, 118]⟩, .string ⟨#[]⟩, .slice (some ⟨w.heap.size, 0, none⟩) 2 2, .string ⟨#[122]⟩, .slice none 0 0] 34)).alloc (.cells #[.int .i64 2] 3)).alloc (.cells #[.int .i64 6, .int .i64 6] 2)).alloc (.cells #[.int .i64 2] 3)).alloc (.cells #[.int .i64 2, .int .i64 0] 2)).alloc (.cells #[.int .i64 6, .slice (some ⟨w.heap.size + 1 + 1, 0, none⟩) 1 1, .slice (some ⟨w.heap.size + 1 + 1 + 1, 0, none⟩) 2 2, .int .i64 6, .slice (some ⟨w.heap.size + 1 + 1 + 1 + 1, 0, none⟩) 1 1, .slice (some ⟨w.heap.size + 1 + 1 + 1 + 1 + 1, 0, none⟩) 2 2] 38) := ⟨_, rfl⟩
  obtain ⟨b0, b1, b2, b3, b4, b5, b6, gW⟩ := sevenT w _ _ _ _ _ _ _ W hW
  have hv : TensIn W (Sl.v ⟨some ⟨w.heap.size + 1 + 1 + 1 + 1 + 1 + 1, 0, none⟩, 2, 2⟩) [(⟨6, ⟨some ⟨w.heap.size + 1 + 1, 0, none⟩, 1, 1⟩, ⟨some ⟨w.heap.size + 1 + 1 + 1, 0, none⟩, 2, 2⟩⟩, ([2], [6, 6])), (⟨6, ⟨some ⟨w.heap.size + 1 + 1 + 1 + 1, 0, none⟩, 1, 1⟩, ⟨some ⟨w.heap.size + 1 + 1 + 1 + 1 + 1, 0, none⟩, 2, 2⟩⟩, ([2], [2, 0]))] := by
    refine blk_tensT (ps := [(⟨6, ⟨some ⟨w.heap.size + 1 + 1, 0, none⟩, 1, 1⟩, ⟨some ⟨w.heap.size + 1 + 1 + 1, 0, none⟩, 2, 2⟩⟩, ([2], [6, 6])), (⟨6, ⟨some ⟨w.heap.size + 1 + 1 + 1 + 1, 0, none⟩, 1, 1⟩, ⟨some ⟨w.heap.size + 1 + 1 + 1 + 1 + 1, 0, none⟩, 2, 2⟩⟩, ([2], [2, 0]))]) b6 rfl rfl (by simp) fun p hp => ?_
    simp only [List.mem_cons, List.not_mem_nil, or_false] at hp
    rcases hp with rfl | rfl
    · exact ⟨blk_ints (zs := [2]) b2 (by simp) (by simp), blk_ints (zs := [6, 6]) b3 (by simp) (by simp)⟩
    · exact ⟨blk_ints (zs := [2]) b4 (by simp) (by simp), blk_ints (zs := [2, 0]) b5 (by simp) (by simp)⟩
  have hi : IsStrs W (Sl.v ⟨some ⟨w.heap.size, 0, none⟩, 2, 2⟩) [⟨#[120]⟩, ⟨#[121]⟩] := lit_isLG (te := 9) (bytes := 16) (xs := [⟨#[120]⟩, ⟨#[121]⟩]) scell_len b0 rfl rfl (by simp) (by simp)
  have P0 := hide (part_0 ⟨some ⟨w.heap.size, 0, none⟩, 2, 2⟩ ⟨some ⟨w.heap.size + 1 + 1 + 1 + 1 + 1 + 1, 0, none⟩, 2, 2⟩ _ _ _ _ W (hl.more gW) (hT.more gW) hi hv)
  have P1 : Hid (∀ wx, W.grownBy wx none → Calls Tryz.prog 9 #[nval ⟨⟨#[68, 105, 118]⟩, ⟨#[]⟩, ⟨some ⟨w.heap.size, 0, none⟩, 2, 2⟩, ⟨#[122]⟩, nilS⟩, .slice (some ⟨w.heap.size + 1 + 1 + 1 + 1 + 1 + 1, 0, none⟩) 2 2, .int .i64 1, .int .i64 2] wx (OneQ wx (.error 7))) := fun wx hx => part_1 ⟨some ⟨w.heap.size, 0, none⟩, 2, 2⟩ ⟨some ⟨w.heap.size + 1 + 1 + 1 + 1 + 1 + 1, 0, none⟩, 2, 2⟩ _ _ _ _ wx ((hl.more gW).more hx) ((hT.more gW).more hx) (hi.more hx) (hv.more hx)
  have BN : Hid (∀ wx, W.grownBy wx none → wx.heap[w.heap.size + 1]? = some (.cells #[.string ⟨#[68, 105, 118]⟩, .string ⟨#[]⟩, .slice (some ⟨w.heap.size, 0, none⟩) 2 2, .string ⟨#[122]⟩, .slice none 0 0] 34 (0, 0))) := fun wx hx => box_kept b1 hx
  have GW := hide gW
  have ST : Hid (∀ wx, Calls Tryz.prog 6 #[.int .i64 4, .int .i64 5, .int .i64 2] wx fun e w' => wx.grownBy w' none ∧ ∃ (va : Option Addr) (vc : Nat), e = .returned (.tuple #[.slice va 3 vc, .int .i64 0]) ∧ IsStps w' (.slice va 3 vc) [⟨4, 0, 2⟩, ⟨4, 2, 4⟩, ⟨4, 4, 5⟩]) := fun wx => (steps_any 4 5 2 wx).mono fun e w' h => by
    obtain ⟨h1, h2⟩ := h
    rw [if_neg (by decide)] at h2
    obtain ⟨va, vc, h3, h4⟩ := h2
    rw [stp_live] at h3 h4
    exact ⟨h1, va, vc, h3, OwnsL.isL (bytes := 24) scells3_len h4 (by simp)⟩
  unfold nval nilS at P0 P1
  simp only at P0 P1
  clear hl hT hv hi gW b0 b1 b2 b3 b4 b5 b6
  go_enter Tryz.func5, Tryz.ntmps5
  go_wp2_with fail
  rw [← hW]
  clear hW
  refine P0.out.mono ?_
  rintro e w1 ⟨g1, rb, ro, rfl, hc⟩
  have G1 := hide g1
  have HC := hide hc
  obtain ⟨n0, n1, n2, n3, n4⟩ := nod_cells (n := ⟨⟨#[68, 105, 118]⟩, ⟨#[]⟩, ⟨some ⟨w.heap.size, 0, none⟩, 2, 2⟩, ⟨#[122]⟩, nilS⟩) (BN.out w1 g1)
  unfold nilS at n4
  simp only at n0 n1 n2 n3 n4
  clear g1 hc
  go_wp2_with fail
  clear n0 n1 n2 n3 n4
  refine (P1.out w1 G1.out).mono ?_
  rintro e w2 ⟨g2, hq⟩
  simp only at hq
  subst hq
  have G2 := hide g2
  clear g2
  go_wp2_with fail
  refine (ST.out w2).mono ?_
  rintro e w3 ⟨g3, va, vc, rfl, hs⟩
  have c3 := cell_still HC.out (grown_trans G2.out g3)
  obtain ⟨w4, hw4⟩ : ∃ w4, w4 = w3.alloc (.cells #[.int .i64 4, .int .i64 0, .int .i64 2, .int .i64 4, .int .i64 2, .int .i64 4, .int .i64 4, .int .i64 4, .int .i64 5] 30) := ⟨_, rfl⟩
  have hb4 := heap_alloc_new w3 (.cells #[.int .i64 4, .int .i64 0, .int .i64 2, .int .i64 4, .int .i64 2, .int .i64 4, .int .i64 4, .int .i64 4, .int .i64 5] 30)
  have g4 : w3.grownBy w4 none := by rw [hw4]; exact grown_new _ _
  rw [← hw4] at hb4
  have GF := hide (grown_trans GW.out (grown_trans G1.out (grown_trans G2.out (grown_trans g3 g4))))
  have SM := hide (same3_any ⟨va, 3, vc⟩ ⟨some ⟨w3.heap.size, 0, none⟩, 3, 3⟩ _ w4 (hs.more g4) (lit_stps hb4))
  clear hb4 hs g3 g4
  simp only at SM
  go_wp2_with fail
  rw [← hw4]
  clear hw4
  refine SM.out.mono ?_
  rintro e w5 ⟨rfl, g5⟩
  have GE := hide (grown_trans GF.out g5)
  clear g5 c3
  go_wp2_with fail
  go_ret
  exact ⟨rfl, GE.out⟩

end Go.Proofs.YtabddmiffcnnjaaGreatDoor

namespace Go.Proofs.YtabddmiffcnnjaaGreatDoor

open Go.RowKit

theorem stp_len (nd c s : Int) (hs : 1 ≤ s) : ∀ (f : Nat) (lo : Int), (stpF nd c s f lo).length ≤ f
  | 0, _ => Nat.le_refl _
  | f + 1, lo => by
    unfold stpF
    by_cases h : lo < c
    · rw [if_pos h, List.length_cons]
      have := stp_len nd c s hs f (lo + s)
      omega
    · rw [if_neg h]
      exact Nat.zero_le _

theorem StpQ.isl {nd c s : Int} {w w' w'' : World} {va : Option Addr} {vc : Nat} (hb : bad3 nd c s = false) (h : OwnsL 30 3 scells3 w' w.heap.size (.slice va (stpF nd c s c.toNat 0).length vc) (stpF nd c s c.toNat 0)) (hg : w'.grownBy w'' none) : IsStps w'' (.slice va (stpF nd c s c.toNat 0).length vc) (stpF nd c s c.toNat 0) := by
  have hb2 := hb
  unfold bad3 at hb2
  rw [decide_eq_false_iff_not] at hb2
  have hl := stp_len nd c s (by omega) c.toNat 0
  exact (OwnsL.isL (bytes := 24) scells3_len h (by omega)).more hg

end Go.Proofs.YtabddmiffcnnjaaGreatDoor

namespace Go.Proofs.YtabddmiffcnnjaaGreatDoor

open Go.RowKit

theorem stp_here {nd c s at' : Int} {xs pre : List Stp} (hs : 1 ≤ s) (hx : pre ++ stpF nd c s (c - at').toNat at' = xs) (hk : pre.length < xs.length) :
    at' < c ∧ xs[pre.length] = ⟨nd, at', min (at' + s) c⟩ ∧ pre ++ [⟨nd, at', min (at' + s) c⟩] ++ stpF nd c s (c - min (at' + s) c).toNat (min (at' + s) c) = xs := by
  have h1 : at' < c := by
    apply Decidable.byContradiction
    intro h
    rw [stp_done _ _ _ _ _ h, List.append_nil] at hx
    subst hx
    omega
  have h2 := stp_next nd c s at' hs h1
  rw [h2] at hx
  refine ⟨h1, ?_, ?_⟩
  · subst hx
    simp
  · rw [List.append_assoc, List.singleton_append, ← hx]
    by_cases h3 : at' + s < c
    · rw [Int.min_eq_left (by omega)]
    · rw [Int.min_eq_right (by omega), stp_done _ _ _ _ _ h3, stp_done _ _ _ _ _ (by omega)]

theorem stp_end {nd c s at' : Int} {xs pre : List Stp} (hs : 1 ≤ s) (hx : pre ++ stpF nd c s (c - at').toNat at' = xs) (hk : ¬ pre.length < xs.length) : ¬ at' < c := by
  intro h
  rw [stp_next nd c s at' hs h] at hx
  subst hx
  simp at hk

set_option maxRecDepth 100000 in
set_option maxHeartbeats 8000000 in
theorem tileWhole_walk (nd c s : Int) (w : World) (hl : Laid w) (hT : SpTab w) : Calls Tryz.prog 4 #[.int .i64 nd, .int .i64 c, .int .i64 s] w fun e w' => e = .returned (.bool true) ∧ w.grownBy w' none := by
  have LV : Hid (∀ wx, w.grownBy wx none → Calls Tryz.prog 5 #[] wx fun e w' => e = .returned (.bool true) ∧ wx.grownBy w' none) := fun wx hx => live21_any wx (hl.more hx) (hT.more hx)
  have S1 := hide (steps_any nd c s w)
  clear hl hT
  by_cases hq : 5000 < c ∧ s < 100
  · obtain ⟨q1, q2⟩ := hq
    go_enter Tryz.func4, Tryz.ntmps4
    go_wp2_with fail
    refine (LV.out w (grown_refl _)).mono ?_
    rintro e w1 ⟨rfl, g1⟩
    go_wp2_with fail
    go_ret
    exact ⟨rfl, g1⟩
  have key : c ≤ 5000 ∨ (5000 < c ∧ 100 ≤ s) := by omega
  clear hq
  cases hb : bad3 nd c s with
  | true =>
    have HB := hide hb
    clear hb
    rcases key with k | ⟨k, k2⟩
    all_goals
      go_enter Tryz.func4, Tryz.ntmps4
      go_wp2_with fail
      refine S1.out.mono ?_
      rintro e w1 ⟨g1, h1⟩
      rw [if_pos HB.out] at h1
      subst h1
      have G1 := hide g1
      clear g1
      go_wp2_with fail
      refine (LV.out w1 G1.out).mono ?_
      rintro e w4 ⟨rfl, g4⟩
      have G4 := hide (grown_trans G1.out g4)
      clear g4
      go_wp2_with fail
      go_ret
      exact ⟨rfl, G4.out⟩
  | false =>
    have HB := hide hb
    have hb2 := hb
    unfold bad3 at hb2
    rw [decide_eq_false_iff_not] at hb2
    have c0 : 0 ≤ c := by omega
    have c1 : c ≤ 65536 := by omega
    have s0 : 1 ≤ s := by omega
    clear hb hb2
    rcases key with k | ⟨k, k2⟩
    all_goals
      go_enter Tryz.func4, Tryz.ntmps4
      go_wp2_with fail
      refine S1.out.mono ?_
      rintro e w1 ⟨g1, h1⟩
      rw [if_neg (by rw [HB.out]; decide)] at h1
      obtain ⟨va, vc, rfl, o1⟩ := h1
      have G1 := hide g1
      have I1 := hide (StpQ.isl HB.out o1 (grown_refl _))
      have X0 : Hid (([] : List Stp) ++ stpF nd c s (c - 0).toNat 0 = stpF nd c s c.toNat 0) := by show _ = _; simp
      have XL := hide (stp_len nd c s s0 c.toNat 0)
      generalize stpF nd c s c.toNat 0 = xs at I1 X0 XL ⊢
      obtain ⟨N, hN⟩ : ∃ N, xs.length = N := ⟨_, rfl⟩
      have HN := hide hN
      have XN : N ≤ c.toNat := by rw [← hN]; exact XL.out
      rw [hN] at I1 ⊢
      clear g1 o1 hN XL
      go_wp2_with fail
      go_loopw [9, 10] (fun a i wr => w1 = wr ∧ ∃ (at' : Int) (pre : List Stp) (kk : Nat), 0 ≤ at' ∧ at' ≤ c ∧ a = .int .i64 at' ∧ i = .int .i64 kk ∧ kk ≤ N ∧ pre.length = kk ∧ pre ++ stpF nd c s (c - at').toNat at' = xs) (fun _ i _ => N - (intOf i).toNat)
      case atStart => exact ⟨rfl, 0, [], 0, by omega, c0, rfl, rfl, by omega, rfl, X0.out⟩
      case round =>
        obtain ⟨rfl, at', pre, kk, a0, a1, rfl, rfl, hk, hpl, hx⟩ := hrel
        have HX := hide hx
        have HPL := hide hpl
        clear hx hpl
        by_cases hlt : kk < N
        · have hkp : kk < xs.length := by rw [HN.out]; exact hlt
          obtain ⟨h1, h2, h3⟩ := stp_here s0 HX.out (by rw [HPL.out]; exact hkp)
          obtain ⟨ub, uo, rfl⟩ := I1.out.addr (k := kk) hkp
          obtain ⟨b0, b1, b2⟩ := stps_at I1.out kk hkp
          have h2' : xs[kk] = ⟨nd, at', min (at' + s) c⟩ := by rw [← h2]; congr 1; exact HPL.out.symm
          rw [h2'] at b0 b1 b2
          obtain ⟨H, hH⟩ : ∃ H, H = min (at' + s) c := ⟨_, rfl⟩
          rw [← hH] at b2 h3
          have H1 : ¬ H ≤ at' := by omega
          have H2 : ¬ s < H - at' := by omega
          have H3 : H ≤ c := by omega
          have HX3 := hide h3
          clear h1 h2 h2' h3 hkp hH
          simp only at b0 b1 b2
          go_wp2_with fail
          go_roundw
          case rel => exact ⟨by first | rfl | trivial, H, pre ++ [⟨nd, at', H⟩], kk + 1, by omega, H3, rfl, by go_num, by omega, by rw [List.length_append, HPL.out]; rfl, HX3.out⟩
          case measure => simp [intOf]; omega
        · obtain rfl : kk = N := by omega
          have hE := stp_end s0 HX.out (by rw [HPL.out, HN.out]; omega)
          obtain rfl : at' = c := by omega
          clear hE
          go_wp2_with fail
          refine (LV.out w1 G1.out).mono ?_
          rintro e w4 ⟨rfl, g4⟩
          have G4 := hide (grown_trans G1.out g4)
          clear g4
          go_wp2_with fail
          go_ret
          exact ⟨rfl, G4.out⟩

theorem tileWhole_law (nd c s : Int) (w : World) (h : Laid w ∧ SpTab w) : Calls Tryz.prog 4 #[.int .i64 nd, .int .i64 c, .int .i64 s] w fun e w' => e = .returned (.bool true) ∧ Below w.heap.size w w' :=
  (tileWhole_walk nd c s w h.1 h.2).mono fun _ _ h => ⟨h.1, grown_below h.2⟩

end Go.Proofs.YtabddmiffcnnjaaGreatDoor
