/- Joined texts: MvPad. -/
import Derived.Test.YtaoplfpigjkgpaaGreatDoorPartBS
import Derived.Test.YtaoplfpigjkgpaaGreatDoorPartBJ
namespace Go.Proofs.YtaoplfpigjkgpaaGreatDoor

open Go.RowKit

theorem rd_upto {off : Int} {x ss : List Int} {N : Nat} (ho : Vw.rdOk off x ss (upToP N) = true) (hr : ∀ p ∈ Vw.plc x ss off, 0 ≤ p ∧ p < N) : Vw.rdE off x ss (upToP N) = 0 ∧ Vw.rdL off x ss (upToP N) = Vw.plc x ss off := by
  refine ⟨if_pos ho, ?_⟩
  unfold Vw.rdL Vw.shows
  rw [if_pos ho]
  conv => rhs; rw [← List.map_id (Vw.plc x ss off)]
  refine List.map_congr_left fun p hp => ?_
  have h := hr p hp
  have hl : p.toNat < N := by omega
  unfold upToP
  simp only [List.getD, id]
  rw [List.getElem?_map, List.getElem?_range hl]
  show ((p.toNat : Nat) : Int) = p
  omega

theorem zip_take (P xs : List Int) (k : Nat) (hk : k < (P.zip xs).length) : (P.zip xs)[k] = (P.getD k 0, xs.getD k 0) := by
  rw [List.getElem_zip]
  rw [List.length_zip] at hk
  simp [List.getD, show k < P.length by omega, show k < xs.length by omega]

set_option maxRecDepth 100000 in
set_option maxHeartbeats 8000000 in
theorem mwhole_at (u : Sl) (l : List Int) (w : World) (hv : IsInts w u.v l) (hl : l.length ≤ 1000) : Calls Tryz.prog 27 #[.slice u.a u.n u.c] w fun e w' => e = .returned (.slice (some ⟨w.heap.size, 0, none⟩) l.length l.length) ∧ IsInts w' (.slice (some ⟨w.heap.size, 0, none⟩) l.length l.length) l ∧ w.grownBy w' none := by
  obtain ⟨i0, hi0, hz0, hz1, hz2⟩ := info_parts infoInt
  obtain ⟨ua, un, uc⟩ := u
  obtain ⟨ux, c, eu, c1, c2, c3⟩ := hv.sl
  simp only [Sl.v, Value.slice.injEq] at eu
  obtain ⟨rfl, rfl, rfl⟩ := eu
  have HV := hide hv
  have hb4 : i0.bytes * l.length ≤ 281474976710656 := by rw [hz2]; omega
  have hb5 : l.length ≤ maxLen := by simp only [maxLen]; omega
  clear hv
  go_enter Tryz.func27, Tryz.ntmps27
  go_wp2_with (first | (refine wpList_make_full _ rfl (.tmp 7) (.tmp 7) 29 rfl w.heap.size 3 i0 (.int .i64 0) 1 Tryz.underlying29 hi0 hz0 hz1 .i64 .i64 _ _ l.length rfl rfl (by omega) (by omega) hb4 hb5 (Nat.le_refl _) ?_; intro w1 hown1 hg1))
  rw [made_zeros] at hown1
  have O1 := hide (owns_zeros (by omega) hown1)
  have G1 := hide hg1
  clear hown1 hg1 hb4 hb5
  go_wp2
  go_loopw [11] (fun x wr => w.grownBy wr none ∧ ∃ k : Nat, k ≤ l.length ∧ x = .int .i64 k ∧ Owns wr w.heap.size (.slice (some ⟨w.heap.size, 0, none⟩) l.length l.length) (l.take k ++ List.replicate (l.length - k) 0)) (fun x _ => l.length - (intOf x).toNat)
  case atStart => exact ⟨G1.out, 0, Nat.zero_le _, rfl, by simpa using O1.out⟩
  case round =>
    obtain ⟨hg, k, hk, rfl, o1⟩ := hrel
    have HG := hide hg
    have P1 := hide o1
    clear o1
    by_cases hlt : k < l.length
    · obtain ⟨b, off, rfl, hc⟩ := HV.out.get hlt
      have hcell := cell_still (hc k hlt) hg
      obtain ⟨a1, a2, a3, a4⟩ := owns_put P1.out (by rw [List.length_append, List.length_take, List.length_replicate]; omega) hlt (l.getD k 0) (HV.out.wf _ (by rw [List.getD, List.getElem?_eq_getElem hlt]; simp))
      rw [take_set l k hlt] at a3
      have N1 := hide a3
      have NG := hide (grown_drop hg a4 (Nat.le_refl _))
      obtain ⟨ov, hov⟩ : ∃ q, q = (l.take k ++ List.replicate (l.length - k) (0 : Int)).getD k 0 := ⟨_, rfl⟩
      rw [← hov] at a1
      obtain ⟨z, hz⟩ : ∃ z, z = l.getD k 0 := ⟨_, rfl⟩
      rw [← hz] at hcell N1 NG
      have l1 : (k : Int) < (l.length : Int) := by omega
      clear a3 a4 hg hov hz hc
      go_wp2_with fail
      go_roundw
      case rel => exact ⟨NG.out, k + 1, hlt, by go_num, N1.out⟩
      case measure => simp [intOf]; omega
    · obtain rfl : k = l.length := by omega
      have E1 : l.take l.length ++ List.replicate (l.length - l.length) (0 : Int) = l := by simp
      have P1' := P1.out
      rw [E1] at P1'
      have F := hide P1'.ints
      clear P1' E1 P1 hg
      go_wp2
      go_ret
      exact ⟨rfl, F.out, HG.out⟩

set_option maxRecDepth 100000 in
set_option maxHeartbeats 16000000 in
theorem mpadded_any (n : Nod) (A : At) (T0 : Ten) (x xs : List Int) (dv : Sl) (l : List Int) (w : World) (hno : NodeOk w n A) (hx : IsInts w T0.dv.v x) (hxs : IsInts w T0.tv.v xs) (hd : IsInts w dv.v l) (cl : cntE l = 0) (hpl : (A.ints ⟨#[112, 97, 100, 115]⟩ []).length = 2 * l.length) (hP : Parts l ((A.ints ⟨#[112, 97, 100, 115]⟩ []).take l.length) x) (hxl : (xs.length : Int) = prod x) (hvr : -9223372036854775808 ≤ bitsV A.xs ⟨#[118, 97, 108, 117, 101]⟩ 0 ∧ bitsV A.xs ⟨#[118, 97, 108, 117, 101]⟩ 0 ≤ 9223372036854775807) :
    Calls Tryz.prog 31 #[nval n, tval T0, .slice dv.a dv.n dv.c] w (EvQ w (.ok (padL' l ((A.ints ⟨#[112, 97, 100, 115]⟩ []).take l.length) x (bitsV A.xs ⟨#[118, 97, 108, 117, 101]⟩ 0) xs))) := by
  obtain ⟨i0, hi0, hz0, hz1, hz2⟩ := info_parts info64E
  have F := fine_of cl
  obtain ⟨PD, hPD⟩ : ∃ z, z = A.ints ⟨#[112, 97, 100, 115]⟩ [] := ⟨_, rfl⟩
  obtain ⟨V, hV⟩ : ∃ z, z = bitsV A.xs ⟨#[118, 97, 108, 117, 101]⟩ 0 := ⟨_, rfl⟩
  rw [← hPD] at hpl hP ⊢
  rw [← hV] at hvr ⊢
  obtain ⟨ST, hST⟩ : ∃ z, z = PD.take l.length := ⟨_, rfl⟩
  rw [← hST] at hP ⊢
  obtain ⟨q1, q2, q3⟩ := part_unlike F hP
  have hpN := F.prod_pos
  obtain ⟨N, hN⟩ : ∃ N : Nat, prod l = N := ⟨(prod l).toNat, by omega⟩
  have hN5 : N ≤ 65536 := by have := F.le; omega
  have hcn : cnt l = (N : Int) := by rw [cnt, if_pos cl, hN]
  have hpx : 1 ≤ prod x := prod_pos _ (part_all F hP).1.fine.pos
  have rdu := rd_upto (N := N) (part_rd (xs := upToP N) F hP (by rw [upToP_len, hN])) (fun p hp => by have := q2 p hp; omega)
  obtain ⟨PL, hPL⟩ : ∃ z, z = Vw.plc x (strd l) (Vw.dot ST (strd l)) := ⟨_, rfl⟩
  have hres : padL' l ST x V xs = putZ (List.replicate N V) (PL.zip xs) := by unfold padL'; rw [hN, Int.toNat_natCast, hPL]
  rw [hres]
  rw [← hPL] at q1 q2 q3 rdu
  have hPll : PL.length = xs.length := by omega
  have NI := hide (fun (wx : World) (hg : w.grownBy wx none) => nints_any n A ⟨#[112, 97, 100, 115]⟩ ⟨none, 0, 0⟩ [] wx (hno.more hg) (ints_nil wx))
  rw [← hPD] at NI
  have NB := hide (fun (wx : World) (hg : w.grownBy wx none) => sbits_any n A.xs A.cs ⟨#[118, 97, 108, 117, 101]⟩ 0 wx (hno.attrs.more hg) (hno.more hg).has)
  rw [← hV] at NB
  obtain ⟨tx, ⟨xda, xdn, xdc⟩, ⟨xta, xtn, xtc⟩⟩ := T0
  obtain ⟨za, zn, zc⟩ := dv
  obtain ⟨_, _, ez, ez1, ez2, ez3⟩ := hd.sl
  obtain ⟨_, _, et, -⟩ := hxs.sl
  simp only [Sl.v, Value.slice.injEq] at ez et
  obtain ⟨-, rfl, -⟩ := ez
  obtain ⟨-, rfl, -⟩ := et
  have HX := hide hx
  have HXS := hide hxs
  have HD := hide hd
  have AS : Hid (∀ (wx : World) (sv uv : Sl) (p : Nat), w.grownBy wx none → IsInts wx uv.v (upToP N) → IsInts wx sv.v ST → wx.heap[p]? = some (.cells #[.slice sv.a sv.n sv.c] 29 (0, 0)) → Calls Tryz.prog 22 #[.agg #[.int .i64 0, .slice za l.length zc, .slice uv.a uv.n uv.c], .func (.func 52) #[] #[.pointer (some ⟨p, 0, none⟩)], .slice xda xdn xdc] wx fun e w' => ∃ u : Sl, e = .returned (.tuple #[.slice u.a u.n u.c, .int .i64 0]) ∧ IsInts w' u.v PL ∧ wx.grownBy w' none) := fun wx sv uv p hg hu hs hb => by
    refine (asp_any ⟨0, ⟨za, l.length, zc⟩, uv⟩ l (upToP N) x ST ⟨xda, xdn, xdc⟩ sv p wx cl hP (HD.out.more hg) hu (HX.out.more hg) hs hb).mono ?_
    rintro e w' ⟨u, rfl, ou, hg'⟩
    rw [rdu.1]
    rw [rdu.2] at ou
    exact ⟨u, rfl, OwnsE.ints ou, hg'⟩
  unfold nval at NI NB ⊢
  unfold tval
  simp only at NI NB HX HXS HD ⊢
  obtain ⟨op, nam, ⟨ia, il, ic⟩, out, ⟨ao, al, cap⟩⟩ := n
  simp only at NI NB ⊢
  obtain ⟨w0, hw0⟩ : ∃ w0, w0 = (w.alloc (.cells #[.string op, .string nam, .slice ia il ic, .string out, .slice ao al cap] 25)).alloc (.cells #[.int .i64 tx, .slice xda xdn xdc, .slice xta xs.length xtc] 32) := ⟨_, rfl⟩
  have g0 : w.grownBy w0 none := by rw [hw0]; exact grown_trans (grown_new _ _) (grown_new _ _)
  have hbx := two_boxes w (.cells #[.string op, .string nam, .slice ia il ic, .string out, .slice ao al cap] 25) (.cells #[.int .i64 tx, .slice xda xdn xdc, .slice xta xs.length xtc] 32)
  rw [← hw0] at hbx
  have BX : Hid (∀ wx, w0.grownBy wx none → wx.heap[w.heap.size]? = some (.cells #[.string op, .string nam, .slice ia il ic, .string out, .slice ao al cap] 25 (0, 0)) ∧ wx.heap[w.heap.size + 1]? = some (.cells #[.int .i64 tx, .slice xda xdn xdc, .slice xta xs.length xtc] 32 (0, 0))) := fun wx h => ⟨box_kept hbx.1 h, box_kept hbx.2 h⟩
  have CN := hide (mcount_any (.slice za l.length zc) l w0 (HD.out.more g0))
  rw [hcn] at CN
  have G0 := hide g0
  have VR := hide hvr
  have PLR := hide q2
  have HPL2 := hide hPll
  have HST := hide hST
  have HPN := hide hN
  have hb4 : i0.bytes * N ≤ 281474976710656 := by rw [hz2]; omega
  have hb5 : N ≤ maxLen := by simp only [maxLen]; omega
  have rk6 := F.few
  clear hbx g0 hx hxs hd hno hP q1 q2 q3 hPL rdu hres hPD hV hcn hxl hpx hPll F cl hvr hN hpN
  go_enter Tryz.func31, Tryz.ntmps31
  go_wp2_with fail
  rw [← hw0]
  clear hw0
  refine CN.out.mono ?_
  rintro e w1 ⟨rfl, rfl⟩
  have N0 := hide (NI.out w0 G0.out)
  obtain ⟨n0, n1, n2, n3, n4⟩ := nod_cells (n := ⟨op, nam, ⟨ia, il, ic⟩, out, ⟨ao, al, cap⟩⟩) (BX.out w0 (grown_refl _)).1
  go_wp2_with fail
  refine N0.out.mono ?_
  rintro e w1 ⟨⟨pa, pn, pc⟩, rfl, ip, hg1⟩
  have MW := hide (mwhole_at ⟨pa, pn, pc⟩ PD w1 ip (by omega))
  simp only at MW
  have G1 := hide hg1
  clear n0 n1 n2 n3 n4 ip hg1 N0 NI CN
  go_wp2_with fail
  refine MW.out.mono ?_
  rintro e w2 ⟨rfl, iq, hg2⟩
  obtain ⟨qb, hqb⟩ : ∃ z, z = w1.heap.size := ⟨_, rfl⟩
  obtain ⟨qc, hqc⟩ : ∃ z, z = PD.length := ⟨_, rfl⟩
  rw [← hqb, ← hqc] at iq
  rw [← hqb, ← hqc]
  clear hqb
  have G2 := hide (grown_trans G1.out hg2)
  have IQ := hide (ints_part iq 0 l.length qc (by omega) (by omega) (by omega))
  rw [Nat.add_zero, List.drop_zero, ← HST.out] at IQ
  have lq : (l.length : Int) ≤ (qc : Int) := by omega
  have lq2 : l.length ≤ qc := by omega
  clear iq hg2 MW hqc
  go_wp2_with fail
  obtain ⟨x0, x1, x2⟩ := ten_cells (BX.out w2 G2.out).2
  have UT := hide (upto_any N w2.drew (by omega))
  have GW2 := hide (grown_trans G0.out G2.out)
  refine wp_region_held_drew (S := fun w' => w2.grownBy w' none) (by kernel_rfl) (grown_drew (grown_refl _)) (fun hHeld => ?_)
  refine wpAnyH_take (i := 0) (v := ?_) rfl (by kernel_rfl) (by kernel_rfl) (by kernel_rfl) (fun _ _ _ h => h) (Or.inl ⟨by kernel_rfl, ?_⟩) (by assumption) ?_
  rotate_left 1
  · (intro wS hSw; go_simp; (try with_reducible rfl))
  try simp only [Act.put]
  refine wpAnyH_take (i := 1) (v := ?_) rfl (by kernel_rfl) (by kernel_rfl) (by kernel_rfl) (fun _ _ _ h => h) (Or.inl ⟨by kernel_rfl, ?_⟩) (by assumption) ?_
  rotate_left 1
  · (intro wS hSw; go_simp; (try with_reducible rfl))
  try simp only [Act.put]
  refine wpAnyH_take (i := 4) (v := ?_) rfl (by kernel_rfl) (by kernel_rfl) (by kernel_rfl) (fun _ _ _ h => h) (Or.inl ⟨by kernel_rfl, ?_⟩) (by assumption) ?_
  rotate_left 1
  · (intro wS hSw; go_simp; (try with_reducible rfl))
  try simp only [Act.put]
  refine wpAnyH_take (i := 6) (v := ?_) rfl (by kernel_rfl) (by kernel_rfl) (by kernel_rfl) (fun _ _ _ h => h) (Or.inl ⟨by kernel_rfl, ?_⟩) (by assumption) ?_
  rotate_left 1
  · (intro wS hSw; go_simp; (try with_reducible rfl))
  try simp only [Act.put]
  refine wpAnyH_take (i := 7) (v := ?_) rfl (by kernel_rfl) (by kernel_rfl) (by kernel_rfl) (fun _ _ _ h => h) (Or.inl ⟨by kernel_rfl, ?_⟩) (by assumption) ?_
  rotate_left 1
  · (intro wS hSw; have c0 := cell_still x1 hSw; go_simp; (try with_reducible rfl))
  try simp only [Act.put]
  refine wpAnyH_ready (rs := [2]) (by kernel_rfl) (by simp) ?_
  refine AllReadyH.cons rfl (fun K hK => ?_) AllReadyH.nil
  go_simp
  refine (UT.out).mono ?_
  rintro e w3 ⟨rfl, ho3, hg3⟩
  have g3 : w2.grownBy w3 none := grown_trans (grown_drew (grown_refl _)) hg3
  have iu : IsInts w3 (.slice (some ⟨w2.drew.heap.size, 0, none⟩) N N) (upToP N) := by have h := ho3.ints (by rw [upToP_len]; omega) (fun z hz => by have := upToP_mem hz; omega); rw [upToP_len] at h; exact h
  refine hK.out _ _ g3 (fun hHeld => ?_)
  clear hK K
  try simp only [Act.put]
  refine wpAnyH_take (i := 3) (v := ?_) rfl (by kernel_rfl) (by kernel_rfl) (by kernel_rfl) (fun _ _ _ h => h) (Or.inl ⟨by kernel_rfl, ?_⟩) (by assumption) ?_
  rotate_left 1
  · (intro wS hSw; go_simp; (try with_reducible rfl))
  try simp only [Act.put]
  refine wpAnyH_ready (rs := [5]) (by kernel_rfl) (by simp) ?_
  refine AllReadyH.cons rfl (fun K hK => ?_) AllReadyH.nil
  go_simp
  refine (partfrom_any ⟨some ⟨qb, 0, none⟩, l.length, qc⟩ w3).mono ?_
  rintro e w4 ⟨rfl, hw4⟩
  have b4 := heap_alloc_new w3 (.cells #[.slice (some ⟨qb, 0, none⟩) l.length qc] 29)
  simp only at hw4
  rw [← hw4] at b4
  have g34 : w3.grownBy w4 none := by rw [hw4]; exact grown_new _ _
  clear hw4
  have g4 : w2.grownBy w4 none := grown_trans g3 g34
  refine hK.out _ _ g4 (fun hHeld => ?_)
  clear hK K
  try simp only [Act.put]
  refine wpAnyH_ready (rs := [8]) (by kernel_rfl) (by simp) ?_
  refine AllReadyH.cons rfl (fun K hK => ?_) AllReadyH.nil
  go_simp
  refine (AS.out w4 ⟨some ⟨qb, 0, none⟩, l.length, qc⟩ ⟨some ⟨w2.drew.heap.size, 0, none⟩, N, N⟩ w3.heap.size (grown_trans GW2.out g4) (iu.more g34) (IQ.out.more g4) b4).mono ?_
  rintro e w5 ⟨⟨ra, rn, rc⟩, rfl, ir, hg5⟩
  have g5 : w2.grownBy w5 none := grown_trans g4 hg5
  refine hK.out _ _ g5 (fun hHeld => ?_)
  clear hK K
  refine wpAnyH_take (i := 9) (v := ?_) rfl (by kernel_rfl) (by kernel_rfl) (by kernel_rfl) (fun _ _ _ h => h) (Or.inl ⟨by kernel_rfl, ?_⟩) (by assumption) ?_
  rotate_left 1
  · (intro wS hSw; go_simp; (try with_reducible rfl))
  try simp only [Act.put]
  refine wpAnyH_take (i := 10) (v := ?_) rfl (by kernel_rfl) (by kernel_rfl) (by kernel_rfl) (fun _ _ _ h => h) (Or.inl ⟨by kernel_rfl, ?_⟩) (by assumption) ?_
  rotate_left 1
  · (intro wS hSw; go_simp; (try with_reducible rfl))
  try simp only [Act.put]
  refine wpAnyH_take (i := 11) (v := ?_) rfl (by kernel_rfl) (by kernel_rfl) (by kernel_rfl) (fun _ _ _ h => h) (Or.inl ⟨by kernel_rfl, ?_⟩) (by assumption) ?_
  rotate_left 1
  · (intro wS hSw; go_simp; (try with_reducible rfl))
  try simp only [Act.put]
  refine wpAnyH_take (i := 12) (v := ?_) rfl (by kernel_rfl) (by kernel_rfl) (by kernel_rfl) (fun _ _ _ h => h) (Or.inl ⟨by kernel_rfl, ?_⟩) (by assumption) ?_
  rotate_left 1
  · (intro wS hSw; go_simp; (try with_reducible rfl))
  try simp only [Act.put]
  refine wpAnyH_take (i := 13) (v := ?_) rfl (by kernel_rfl) (by kernel_rfl) (by kernel_rfl) (fun _ _ _ h => h) (Or.inl ⟨by kernel_rfl, ?_⟩) (by assumption) ?_
  rotate_left 1
  · (intro wS hSw; go_simp; (try with_reducible rfl))
  try simp only [Act.put]
  refine wpAnyH_done (by kernel_rfl) ?_ _
  go_simp
  obtain ⟨_, _, er, -⟩ := ir.sl
  simp only [Sl.v, Value.slice.injEq] at er
  obtain ⟨-, rfl, -⟩ := er
  simp only [Sl.v] at ir
  rw [HPL2.out] at ir ⊢
  have IR := hide ir
  have G5 := hide g5
  have GW5 := hide (grown_trans GW2.out g5)
  have NB5 := hide (NB.out w5 GW5.out)
  obtain ⟨n0, n1, n2, n3, n4⟩ := nod_cells (n := ⟨op, nam, ⟨ia, il, ic⟩, out, ⟨ao, al, cap⟩⟩) (BX.out w5 (grown_trans G2.out g5)).1
  clear ho3 hg3 g3 iu b4 g34 g4 hg5 g5 ir hHeld x0 x1 x2 UT
  go_wp2_with fail
  refine NB5.out.mono ?_
  rintro e w6 ⟨rfl, hg6⟩
  have G6 := hide (grown_trans GW5.out hg6)
  have IR6 := hide (IR.out.more hg6)
  have G06 := hide (grown_trans (grown_trans G2.out G5.out) hg6)
  clear hg6 n0 n1 n2 n3 n4 NB5
  go_wp2_with (first | (refine wpList_make_full _ rfl (.tmp 42) (.tmp 42) 30 rfl w6.heap.size 2 i0 (.int .i64 0) 1 Tryz.underlying30 hi0 hz0 hz1 .i64 .i64 _ _ N rfl rfl (by omega) (by omega) hb4 hb5 (Nat.le_refl _) ?_; intro w7 hown7 hg7) | fail)
  rw [made_zeros] at hown7
  have O7 := hide (zeros_ownsE (by omega) hown7)
  have G7 := hide hg7
  clear hown7 hg7 hb4 hb5
  go_loopw [46] (fun x wr => w6.grownBy wr none ∧ ∃ k : Nat, k ≤ N ∧ x = .int .i64 k ∧ OwnsE wr w6.heap.size (.slice (some ⟨w6.heap.size, 0, none⟩) N N) (List.replicate k V ++ List.replicate (N - k) 0)) (fun x _ => N - (intOf x).toNat)
  case atStart => exact ⟨G7.out, 0, Nat.zero_le _, rfl, by simpa using O7.out⟩
  case round =>
    obtain ⟨hg, k, hk, rfl, ho⟩ := hrel
    have HG := hide hg
    have HO := hide ho
    clear ho
    by_cases hlt : k < N
    · obtain ⟨a1, a2, a3, a4⟩ := HO.out.put (by rw [List.length_append, List.length_replicate, List.length_replicate]; omega) hlt V VR.out
      have SE : (List.replicate k V ++ List.replicate (N - k) 0).set k V = List.replicate (k + 1) V ++ List.replicate (N - (k + 1)) 0 := by
        rw [List.set_append_right _ _ (by rw [List.length_replicate]; exact Nat.le_refl _), List.length_replicate, Nat.sub_self, show N - k = (N - (k + 1)) + 1 by omega, List.replicate_succ, List.set_cons_zero, List.replicate_succ', List.append_assoc]
        rfl
      rw [SE] at a3
      have NG := hide (grown_drop hg a4 (Nat.le_refl _))
      have NO := hide a3
      obtain ⟨ov, hov⟩ : ∃ z, z = (List.replicate k V ++ List.replicate (N - k) (0 : Int)).getD k 0 := ⟨_, rfl⟩
      rw [← hov] at a1
      have l1 : (k : Int) < (N : Int) := by omega
      clear a3 a4 hg hov SE
      go_wp2_with fail
      go_roundw
      case rel => exact ⟨NG.out, k + 1, hlt, by go_num, NO.out⟩
      case measure => simp [intOf]; omega
    · obtain rfl : N = k := by omega
      have O8 : Hid (OwnsE wr w6.heap.size (.slice (some ⟨w6.heap.size, 0, none⟩) N N) (putZ (List.replicate N V) ((PL.zip xs).take 0))) := by
        have h := HO.out
        rw [Nat.sub_self, List.replicate_zero, List.append_nil] at h
        exact h
      obtain ⟨wo, rfl⟩ : ∃ wo, wo = wr := ⟨_, rfl⟩
      have ZL : Hid ((PL.zip xs).length = xs.length) := by show _ = _; rw [List.length_zip, HPL2.out]; omega
      have X5 := HXS.out.le
      clear hg HO
      go_wp2_with fail
      go_loopw [56] (fun x wr => w6.grownBy wr none ∧ ∃ k : Nat, k ≤ xs.length ∧ x = .int .i64 k ∧ OwnsE wr w6.heap.size (.slice (some ⟨w6.heap.size, 0, none⟩) N N) (putZ (List.replicate N V) ((PL.zip xs).take k))) (fun x _ => xs.length - (intOf x).toNat)
      case atStart => exact ⟨HG.out, 0, Nat.zero_le _, rfl, O8.out⟩
      case round =>
        obtain ⟨hg, k, hk, rfl, ho⟩ := hrel
        have HG2 := hide hg
        have HO := hide ho
        clear ho
        by_cases hlt : k < xs.length
        · have hkz : k < (PL.zip xs).length := by rw [ZL.out]; exact hlt
          have stp := putZ_step (List.replicate N V) (PL.zip xs) k hkz
          rw [zip_take PL xs k hkz] at stp
          simp only at stp
          obtain ⟨rb, ro, rfl, hcr⟩ := (IR6.out.more hg).get (k := k) (by rw [HPL2.out]; exact hlt)
          have q1 := hcr k (by rw [HPL2.out]; exact hlt)
          have pr := PLR.out (PL.getD k 0) (getD_mem3 (by rw [HPL2.out]; exact hlt))
          obtain ⟨pl, hpl'⟩ : ∃ z : Nat, PL.getD k 0 = z := ⟨(PL.getD k 0).toNat, by omega⟩
          rw [hpl'] at q1 pr stp
          rw [Int.toNat_natCast] at stp
          have plt : pl < N := by have := HPN.out; omega
          obtain ⟨xb, xo, rfl, hcx⟩ := HXS.out.get (k := k) hlt
          have q2 := cell_still (hcx k hlt) (grown_trans G6.out hg)
          have zr := HXS.out.wf (xs.getD k 0) (getD_mem3 hlt)
          obtain ⟨z, hz⟩ : ∃ z, z = xs.getD k 0 := ⟨_, rfl⟩
          rw [← hz] at q2 zr stp
          obtain ⟨t0, t1, t2⟩ := ten_cells (BX.out wr (grown_trans G06.out hg)).2
          obtain ⟨a1, a2, a3, a4⟩ := HO.out.put (by rw [putZ_len, List.length_replicate]) plt z zr
          rw [← stp] at a3
          have NG := hide (grown_drop hg a4 (Nat.le_refl _))
          have NO := hide a3
          obtain ⟨ov, hov⟩ : ∃ y, y = (putZ (List.replicate N V) ((PL.zip xs).take k)).getD pl 0 := ⟨_, rfl⟩
          rw [← hov] at a1
          have l1 : (k : Int) < (xs.length : Int) := by omega
          have l2 : (pl : Int) < (N : Int) := by omega
          clear a3 a4 hg hov hcr hcx hz stp pr zr hpl'
          go_wp2_with fail
          go_roundw
          case rel => exact ⟨NG.out, k + 1, hlt, by go_num, NO.out⟩
          case measure => simp [intOf]; omega
        · obtain rfl : xs.length = k := by omega
          have e1 : (PL.zip xs).take xs.length = PL.zip xs := by rw [← ZL.out, List.take_length]
          have OF : Hid (OwnsE wr w.heap.size (.slice (some ⟨w6.heap.size, 0, none⟩) N N) (putZ (List.replicate N V) (PL.zip xs))) := by
            have h := HO.out
            rw [e1] at h
            exact ⟨ownsRow_base h.1 G6.out.size, h.2⟩
          have GF := hide (grown_trans G6.out hg)
          clear hg HO
          go_wp2
          go_ret2
          exact ev_ok rfl GF.out ⟨⟨_, _, _⟩, rfl, OF.out⟩

end Go.Proofs.YtaoplfpigjkgpaaGreatDoor
