/- Joined texts: MvGathP, MvGath. -/
import Derived.Test.YtaoplfpigjkgpaaGreatDoorPartBI
import Derived.Laws.CopyOwn
import Derived.Deep.RegionHeld3
import Derived.Deep.LoopGhost
namespace Go.Proofs.YtaoplfpigjkgpaaGreatDoor

open Go.RowKit

def rowL (xs : List Int) (W i : Nat) : List Int := (xs.drop (i * W)).take W

def rowsG (xs : List Int) (W dim A : Nat) (ps : List Int) : List (List Int) := (List.range A).flatMap fun h => ps.map fun p => rowL xs W (h * dim + p.toNat)

theorem rowL_len {xs : List Int} {W i : Nat} (h : i * W + W ≤ xs.length) : (rowL xs W i).length = W := by
  unfold rowL
  rw [List.length_take, List.length_drop]
  omega

theorem rowsG_len (xs : List Int) (W dim A : Nat) (ps : List Int) : (rowsG xs W dim A ps).length = A * ps.length := flat_len' _ _ _ fun i _ => by simp

theorem rowsG_at (xs : List Int) (W dim A : Nat) (ps : List Int) (h j : Nat) (hh : h < A) (hj : j < ps.length) : (rowsG xs W dim A ps).getD (h * ps.length + j) [] = rowL xs W (h * dim + (ps.getD j 0).toNat) := by
  have e := flat_part (fun h => ps.map fun p => rowL xs W (h * dim + p.toNat)) ps.length A (fun i _ => by simp) h hh
  have e2 : (((rowsG xs W dim A ps).drop (h * ps.length)).take ps.length).getD j [] = (ps.map fun p => rowL xs W (h * dim + p.toNat)).getD j [] := by unfold rowsG; rw [e]
  simp only [List.getD] at e2
  rw [List.getElem?_take_of_lt hj, List.getElem?_drop] at e2
  simp only [List.getD]
  rw [e2, List.getElem?_map]
  simp [hj]

def partG (rs : List (List Int)) (m N W : Nat) : List Int := (rs.take m).flatten ++ List.replicate (N - m * W) 0

theorem flat_take_len {rs : List (List Int)} {W : Nat} (hr : ∀ r ∈ rs, r.length = W) : ∀ m, m ≤ rs.length → (rs.take m).flatten.length = m * W
  | 0, _ => by simp
  | m + 1, h => by
    rw [List.take_add_one, List.getElem?_eq_getElem (by omega), Option.toList_some, List.flatten_append, List.length_append, flat_take_len hr m (by omega), List.flatten_singleton, hr _ (List.getElem_mem _), Nat.add_mul, Nat.one_mul]

theorem partG_len {rs : List (List Int)} {m N W : Nat} (hr : ∀ r ∈ rs, r.length = W) (hm : m ≤ rs.length) (hN : m * W ≤ N) : (partG rs m N W).length = N := by
  unfold partG
  rw [List.length_append, flat_take_len hr m hm, List.length_replicate]
  omega

theorem partG_done {rs : List (List Int)} {N W : Nat} (hN : N = rs.length * W) : partG rs rs.length N W = rs.flatten := by
  unfold partG
  rw [hN, Nat.sub_self, List.replicate_zero, List.append_nil, List.take_length]

theorem partG_step {rs : List (List Int)} {m N W : Nat} (hr : ∀ r ∈ rs, r.length = W) (hm : m < rs.length) (hN : m * W + W ≤ N) : splice (partG rs m N W) (m * W) (rs.getD m []) = partG rs (m + 1) N W := by
  have hl := flat_take_len hr m (by omega)
  have e : rs.getD m [] = rs[m] := by simp [List.getD, hm]
  have hw : (rs.getD m []).length = W := by rw [e]; exact hr _ (List.getElem_mem _)
  unfold splice partG
  rw [hw, List.take_append_of_le_length (by omega), List.take_of_length_le (by omega), List.drop_append, List.drop_of_length_le (by omega), List.nil_append, hl, List.drop_replicate, List.take_add_one, List.getElem?_eq_getElem hm, Option.toList_some, List.flatten_append, List.flatten_singleton, e, List.append_assoc]
  rw [show N - m * W - (m * W + W - m * W) = N - (m + 1) * W from by rw [Nat.add_mul]; omega]

theorem splice_map {L cs : List Int} {off : Nat} (f : Int → Value) : splice (L.map f) off (cs.map f) = (splice L off cs).map f := by
  unfold splice
  simp [List.map_take, List.map_drop]

end Go.Proofs.YtaoplfpigjkgpaaGreatDoor

namespace Go.Proofs.YtaoplfpigjkgpaaGreatDoor

open Go.RowKit

theorem grown_of_below {w w' : World} (h : Below w.heap.size w w') : w.grownBy w' none := ⟨h.os, h.tape, h.output, h.size, fun k hk _ => h.block k hk⟩

theorem own_heap {w : World} {base g N : Nat} {zs : List Int} (h : OwnsE w base (.slice (some ⟨g, 0, none⟩) N N) zs) (hz : zs.length = N) : w.heap[g]? = some (.cells (zs.map (Value.int .i64)).toArray 2 (0, 0)) ∧ base ≤ g := by
  rcases h.1.2 with ⟨e, -⟩ | ⟨g', cap, cur, e, e1, e2, e3, e4, e5, e6⟩
  · cases e
  · simp only [Value.slice.injEq, Option.some.injEq, Addr.mk.injEq, and_true] at e
    obtain ⟨rfl, -, rfl⟩ := e
    refine ⟨?_, e1⟩
    rw [e2]
    have : cur.toList = zs.map (Value.int .i64) := by
      rw [← e6, List.take_of_length_le]
      rw [Array.length_toList, e5, hz]
      exact Nat.le_refl _
    rw [← this]

theorem heap_own {w : World} {base g N : Nat} {zs : List Int} (h : w.heap[g]? = some (.cells (zs.map (Value.int .i64)).toArray 2 (0, 0))) (hb : base ≤ g) (hz : zs.length = N) (hN : N ≤ 65536) (hr : ∀ z ∈ zs, -9223372036854775808 ≤ z ∧ z ≤ 9223372036854775807) : OwnsE w base (.slice (some ⟨g, 0, none⟩) N N) zs := by
  subst hz
  refine ⟨⟨by simp, .inr ⟨g, zs.length, _, rfl, hb, h, Nat.le_refl _, by simp only [maxLen]; omega, by simp, ?_⟩⟩, by omega, hr⟩
  rw [List.take_of_length_le (by simp)]

def gathR (xs : List Int) (W dim A : Nat) (idx : List Int) : R (List Int) := if plcAll dim idx = true then .ok (rowsG xs W dim A (idx.map (plcF dim))).flatten else .error 8

set_option maxRecDepth 100000 in
set_option maxHeartbeats 16000000 in
theorem gathered_any (tx ty : Int) (dv xv iv zv : Sl) (yda : Option Addr) (ydn ydc : Nat) (ds xs idx dims : List Int) (ax M A dim W N : Nat) (w : World) (hd : IsInts w dv.v ds) (hx : IsInts w xv.v xs) (hi : IsInts w iv.v idx) (hz : IsInts w zv.v dims)
    (hax : ax + 1 + M = ds.length) (hdim : ds.getD ax 0 = (dim : Int)) (hd1 : dim ≤ 65536) (hW : cnt (ds.drop (ax + 1)) = (W : Int)) (hW1 : 1 ≤ W) (hA1 : 1 ≤ A) (hdm1 : 1 ≤ dim) (hA : cnt (dims.take ax) = (A : Int)) (hN : cnt dims = (N : Int)) (hNe : N = A * idx.length * W) (hxl : xs.length = A * dim * W) (hx5 : xs.length ≤ 65536) (hN5 : N ≤ 65536) (hi5 : idx.length ≤ 65536) (hi1 : 1 ≤ idx.length) (hzl : ax ≤ dims.length) (hz1 : 1 ≤ dims.length) (hr6 : ds.length ≤ 6) :
    Calls Tryz.prog 34 #[.agg #[.int .i64 tx, .slice dv.a dv.n dv.c, .slice xv.a xv.n xv.c], .agg #[.int .i64 ty, .slice yda ydn ydc, .slice iv.a iv.n iv.c], .slice zv.a zv.n zv.c, .int .i64 ax] w (EvQ w (gathR xs W dim A idx)) := by
  obtain ⟨i0, hi0, hz0, hzz1, hzz2⟩ := info_parts info64E
  obtain ⟨da, dn, dc⟩ := dv
  obtain ⟨xa, xn, xc⟩ := xv
  obtain ⟨ia, inn, ic⟩ := iv
  obtain ⟨za, zn, zc⟩ := zv
  obtain ⟨_, _, e1, c1, -⟩ := hd.sl
  obtain ⟨_, _, e2, c2, -⟩ := hx.sl
  obtain ⟨_, _, e3, c3, -⟩ := hi.sl
  obtain ⟨_, _, e4, c4, -⟩ := hz.sl
  simp only [Sl.v, Value.slice.injEq] at e1 e2 e3 e4
  obtain ⟨-, rfl, rfl⟩ := e1
  obtain ⟨-, rfl, rfl⟩ := e2
  obtain ⟨-, rfl, rfl⟩ := e3
  obtain ⟨-, rfl, rfl⟩ := e4
  have xpos : 0 < xs.length := by rw [hxl]; exact Nat.mul_pos (Nat.mul_pos hA1 hdm1) hW1
  obtain ⟨db, df, rfl, hcd⟩ := hd.get (k := 0) (by omega)
  obtain ⟨xb, xf, rfl, -⟩ := hx.get (k := 0) xpos
  obtain ⟨zb, zf, rfl, -⟩ := hz.get (k := 0) (by omega)
  simp only [Sl.v] at hd hx hi hz
  have dcell := hcd ax (by omega)
  rw [hdim] at dcell
  have HD := hide hd
  have HX := hide hx
  have HI := hide hi
  have HZ := hide hz
  obtain ⟨w0, hw0⟩ : ∃ w0, w0 = (w.alloc (.cells #[.int .i64 tx, .slice (some ⟨db, df, none⟩) ds.length dc, .slice (some ⟨xb, xf, none⟩) xs.length xc] 32)).alloc (.cells #[.int .i64 ty, .slice yda ydn ydc, .slice ia idx.length ic] 32) := ⟨_, rfl⟩
  have g0 : w.grownBy w0 none := by rw [hw0]; exact grown_trans (grown_new _ _) (grown_new _ _)
  have hbx := two_boxes w (.cells #[.int .i64 tx, .slice (some ⟨db, df, none⟩) ds.length dc, .slice (some ⟨xb, xf, none⟩) xs.length xc] 32) (.cells #[.int .i64 ty, .slice yda ydn ydc, .slice ia idx.length ic] 32)
  rw [← hw0] at hbx
  obtain ⟨x0, x1, x2⟩ := ten_cells hbx.1
  obtain ⟨y0, y1, y2⟩ := ten_cells hbx.2
  have BX : Hid (∀ wx, w0.grownBy wx none → wx.heap[w.heap.size]? = some (.cells #[.int .i64 tx, .slice (some ⟨db, df, none⟩) ds.length dc, .slice (some ⟨xb, xf, none⟩) xs.length xc] 32 (0, 0))) := fun wx h => box_kept hbx.1 h
  have dcell := cell_still dcell g0
  have PL := hide (gplaces_any ⟨ia, idx.length, ic⟩ idx dim w0 (hi.more g0) (by omega) (by omega))
  have j1 : (ax : Int) < (ds.length : Int) := by omega
  have j1n : ax < ds.length := by omega
  have G0 := hide g0
  have RN : Hid (∀ r ∈ rowsG xs W dim A (idx.map (plcF dim)), plcAll dim idx = true → r.length = W) := fun r hr hp => by
    unfold rowsG at hr
    obtain ⟨h, hh, hr⟩ := List.mem_flatMap.1 hr
    obtain ⟨p, hp', rfl⟩ := List.mem_map.1 hr
    obtain ⟨z, hz, rfl⟩ := List.mem_map.1 hp'
    have hs := List.all_eq_true.1 hp z hz
    obtain ⟨i, hi⟩ := Option.isSome_iff_exists.1 hs
    have hlt := axisO_lt hi
    refine rowL_len ?_
    have hh : h < A := by simpa using hh
    rw [hxl, show (h * dim + (plcF dim z).toNat) * W + W = (h * dim + (plcF dim z).toNat + 1) * W from by rw [Nat.add_mul (h * dim + _) 1 W]; omega]
    refine Nat.mul_le_mul_right _ ?_
    have : (plcF dim z).toNat = i := by unfold plcF; rw [hi]; simp
    rw [this]
    have : h * dim + dim ≤ A * dim := by
      rw [show h * dim + dim = (h + 1) * dim from by rw [Nat.add_mul]; omega]
      exact Nat.mul_le_mul_right _ hh
    omega
  rw [hw0] at x0 x1 x2 y0 y1 y2 dcell
  have hA5 : A ≤ 65536 := Nat.le_trans (Nat.le_trans (Nat.le_mul_of_pos_right A hdm1) (Nat.le_mul_of_pos_right _ hW1)) (by rw [← hxl]; exact hx5)
  have EXL := hide hxl
  have ENE := hide hNe
  have EW := hide hW
  have EA := hide hA
  have EN := hide hN
  have EAX := hide hax
  clear hd hx hi hz hcd hbx g0 c1 c2 c3 hxl hNe hdim hW hA hN hax
  go_enter Tryz.func34, Tryz.ntmps34
  go_wp2_with fail
  rw [← hw0]
  rw [← hw0] at x0 x1 x2 y0 y1 y2 dcell
  clear hw0
  refine PL.out.mono ?_
  rintro e w1 ⟨hg1, ⟨hp, ⟨pa, pn, pc⟩, rfl, ip⟩ | ⟨hp, rfl⟩⟩
  · have G1 := hide (grown_trans G0.out hg1)
    have G01 := hide hg1
    obtain ⟨_, _, ep, p1, -⟩ := ip.sl
    simp only [Sl.v, Value.slice.injEq, List.length_map] at ep
    obtain ⟨-, rfl, rfl⟩ := ep
    obtain ⟨pb, pf, rfl, hcp⟩ := ip.get (k := 0) (by rw [List.length_map]; omega)
    have IP := hide ip
    have HP := hide hp
    have C1 := hide (mcount_any (.slice (some ⟨zb, zf, none⟩) dims.length zc) dims w1 (HZ.out.more G1.out))
    rw [EN.out] at C1
    clear hg1 ip hp x0 x1 x2 y0 y1 y2 dcell PL p1
    go_wp2_with fail
    refine C1.out.mono ?_
    rintro e w2 ⟨rfl, rfl⟩
    have hb4 : i0.bytes * N ≤ 281474976710656 := by rw [hzz2]; omega
    have hb5 : N ≤ maxLen := by simp only [maxLen]; omega
    go_wp2_with (first | (refine wpList_make_full _ rfl (.tmp 33) (.tmp 33) 30 rfl w1.heap.size 2 i0 (.int .i64 0) 1 Tryz.underlying30 hi0 hz0 hzz1 .i64 .i64 _ _ N rfl rfl (by omega) (by omega) hb4 hb5 (Nat.le_refl _) ?_; intro w3 hown hg3) | fail)
    have g3 := grown_trans G1.out hg3
    have hg13 := hide hg3
    have C2 := hide (mcount_any (.slice (some ⟨zb, zf, none⟩) ax zc) (dims.take ax) w3 (by
      have k := ints_part (HZ.out.more g3) 0 ax zc (by omega) (by omega) (by omega)
      rw [Nat.add_zero, List.drop_zero] at k
      exact k))
    rw [EA.out] at C2
    obtain ⟨g, hg⟩ : ∃ g, g = w1.heap.size := ⟨_, rfl⟩
    obtain ⟨Rn, hR⟩ : ∃ Rn, Rn = idx.length := ⟨_, rfl⟩
    obtain ⟨RS, hRS⟩ : ∃ RS, RS = rowsG xs W dim A (idx.map (plcF dim)) := ⟨_, rfl⟩
    have RL : Hid (∀ r ∈ RS, r.length = W) := fun r hr => by rw [hRS] at hr; exact RN.out r hr HP.out
    have RSL : Hid (RS.length = A * Rn) := by show _ = _; rw [hRS, rowsG_len, List.length_map, hR]
    have RAT : Hid (∀ h j, h < A → j < Rn → RS.getD (h * Rn + j) [] = rowL xs W (h * dim + ((idx.map (plcF dim)).getD j 0).toNat)) := fun h j hh hj => by
      have e := rowsG_at xs W dim A (idx.map (plcF dim)) h j hh (by rw [List.length_map, ← hR]; exact hj)
      rw [List.length_map, ← hR] at e
      rw [hRS]
      exact e
    have GOK : Hid (gathR xs W dim A idx = .ok RS.flatten) := by show _ = _; unfold gathR; rw [if_pos HP.out, hRS]
    have PN : Hid (∀ j, j < Rn → ∃ pn : Nat, (idx.map (plcF dim)).getD j 0 = (pn : Int) ∧ pn < dim) := fun j hj => by
      have hj' : j < idx.length := by rw [← hR]; exact hj
      have hs := List.all_eq_true.1 HP.out idx[j] (List.getElem_mem _)
      obtain ⟨i, hi⟩ := Option.isSome_iff_exists.1 hs
      refine ⟨i, ?_, axisO_lt hi⟩
      rw [List.getD, List.getElem?_map, List.getElem?_eq_getElem hj']
      simp only [Option.map_some, Option.getD_some, plcF]
      rw [hi]
      rfl
    have NE : Hid (N = A * Rn * W) := by show _ = _; rw [ENE.out, hR]
    have RWF : Hid (∀ m z, z ∈ partG RS m N W → -9223372036854775808 ≤ z ∧ z ≤ 9223372036854775807) := fun m z hz => by
      unfold partG at hz
      rcases List.mem_append.1 hz with hz | hz
      · obtain ⟨r, hr, hz⟩ := List.mem_flatten.1 hz
        have hr := List.mem_of_mem_take hr
        rw [hRS] at hr
        unfold rowsG at hr
        obtain ⟨h, -, hr⟩ := List.mem_flatMap.1 hr
        obtain ⟨p, -, rfl⟩ := List.mem_map.1 hr
        exact HX.out.wf z (List.mem_of_mem_drop (List.mem_of_mem_take hz))
      · rw [(List.mem_replicate.1 hz).2]
        omega
    have O3 : Hid (OwnsE w3 g (.slice (some ⟨g, 0, none⟩) N N) (partG RS 0 N W)) := by
      rw [made_zeros] at hown
      show OwnsE _ _ _ _
      rw [show partG RS 0 N W = List.replicate N 0 from by simp [partG], hg]
      refine ⟨by rw [List.length_replicate]; exact hown, by rw [List.length_replicate]; omega, fun z hz => ?_⟩
      rw [(List.mem_replicate.1 hz).2]
      omega
    have BP : Hid (∀ wx, w1.grownBy wx none → wx.heap[w.heap.size]? = some (.cells #[.int .i64 tx, .slice (some ⟨db, df, none⟩) ds.length dc, .slice (some ⟨xb, xf, none⟩) xs.length xc] 32 (0, 0))) := fun wx h => BX.out wx (grown_trans G01.out h)
    have CP : Hid (∀ wx, w1.grownBy wx none → ∀ j, j < Rn → wx.cell? ⟨pb, pf + j, none⟩ = some (.int .i64 ((idx.map (plcF dim)).getD j 0))) := fun wx h j hj => cell_still (hcp j (by rw [List.length_map, ← hR]; exact hj)) h
    have HRe := hide hR
    rw [← hg, ← hR]
    have HG := hide hg
    clear hown hb4 hb5 hg3 g3 hcp hR hRS hg C1
    refine C2.out.mono ?_
    rintro e w4 ⟨rfl, rfl⟩
    go_wp2_with fail
    go_loopw [14, 39] (fun at' i wr => w1.grownBy wr none ∧ ∃ h T : Nat, h ≤ A ∧ T = h * Rn * W ∧ i = .int .i64 h ∧ at' = .int .i64 T ∧ OwnsE wr g (.slice (some ⟨g, 0, none⟩) N N) (partG RS (h * Rn) N W)) (fun _ i _ => A - (intOf i).toNat)
    case atStart => exact ⟨hg13.out, 0, 0, Nat.zero_le _, by simp, rfl, rfl, by simpa using O3.out⟩
    case round =>
      obtain ⟨hgo, h, T0, hh, hT0, rfl, rfl, ho⟩ := hrel
      obtain ⟨wo, rfl⟩ : ∃ wo, wo = wr := ⟨_, rfl⟩
      have HO := hide ho
      have HGO := hide hgo
      have HT0 := hide hT0
      clear ho hT0 hgo
      by_cases hlt : h < A
      · have hl1 : (h : Int) < (A : Int) := by omega
        go_wp2_with fail
        go_loopw [14, 44] (fun at' i wr => w1.grownBy wr none ∧ ∃ j m T : Nat, j ≤ Rn ∧ m = h * Rn + j ∧ T = m * W ∧ i = .int .i64 j ∧ at' = .int .i64 T ∧ OwnsE wr g (.slice (some ⟨g, 0, none⟩) N N) (partG RS m N W)) (fun _ i _ => Rn - (intOf i).toNat)
        case atStart => exact ⟨HGO.out, 0, h * Rn, T0, Nat.zero_le _, by omega, HT0.out, rfl, rfl, HO.out⟩
        case round =>
          obtain ⟨hgr, j, m, T, hj, hm, hT, rfl, rfl, ho⟩ := hrel
          have HM := hide hm
          have HT := hide hT
          have OR := hide ho
          have GRr := hide hgr
          clear hm hT ho hgr
          by_cases hjl : j < Rn
          · obtain ⟨pn, hpn, hpd⟩ := PN.out j hjl
            have hcl := CP.out wr GRr.out j hjl
            rw [hpn] at hcl
            have hjI : (j : Int) < (Rn : Int) := by omega
            have rn5 : Rn ≤ 65536 := by rw [HRe.out]; exact hi5
            have mlt : m < RS.length := by
              rw [RSL.out, HM.out]
              have : h * Rn + Rn ≤ A * Rn := by
                rw [show h * Rn + Rn = (h + 1) * Rn from by rw [Nat.add_mul]; omega]
                exact Nat.mul_le_mul_right _ hlt
              omega
            have TW : T + W ≤ N := by
              rw [HT.out, NE.out, ← RSL.out, show m * W + W = (m + 1) * W from by rw [Nat.add_mul]; omega]
              exact Nat.mul_le_mul_right _ mlt
            obtain ⟨I, hI⟩ : ∃ I, I = h * dim + pn := ⟨_, rfl⟩
            have IW : I * W + W ≤ xs.length := by
              rw [EXL.out, show I * W + W = (I + 1) * W from by rw [Nat.add_mul]; omega]
              refine Nat.mul_le_mul_right _ ?_
              have : h * dim + dim ≤ A * dim := by
                rw [show h * dim + dim = (h + 1) * dim from by rw [Nat.add_mul]; omega]
                exact Nat.mul_le_mul_right _ hlt
              omega
            have I5 : I ≤ 65536 := by
              have : I ≤ I * W := Nat.le_mul_of_pos_right _ hW1
              omega
            have h5 : h * dim ≤ 65536 := by omega
            obtain ⟨ROW, hROW⟩ : ∃ r, r = RS.getD m [] := ⟨_, rfl⟩
            have RE : Hid (ROW = (xs.drop (I * W)).take W) := by
              show _ = _
              rw [hROW, HM.out, RAT.out h j hlt hjl, hpn, Int.toNat_natCast, ← hI]
              rfl
            have RWL : Hid (ROW.length = W) := by
              show _ = _
              rw [hROW]
              have e : RS.getD m [] = RS[m] := by simp [List.getD, mlt]
              rw [e]
              exact RL.out _ (List.getElem_mem _)
            have RC : Hid (∀ wx, w1.grownBy wx none → Calls Tryz.prog 58 #[.agg #[.int .i64 tx, .slice (some ⟨db, df, none⟩) ds.length dc, .slice (some ⟨xb, xf, none⟩) xs.length xc], .int .i64 ((ax + 1 : Nat) : Int), .int .i64 I] wx fun e w' => ∃ u : Sl, e = .returned u.v ∧ IsInts w' u.v ROW ∧ wx.grownBy w' none) := fun wx hx => by
              have k := mrow_any ⟨tx, ⟨some ⟨db, df, none⟩, ds.length, dc⟩, ⟨some ⟨xb, xf, none⟩, xs.length, xc⟩⟩ ds xs (ax + 1) M I W wx (HD.out.more (grown_trans G1.out hx)) (HX.out.more (grown_trans G1.out hx)) (by omega) EAX.out EW.out hW1 IW hx5
              rw [← RE.out] at k
              exact k
            have PS : Hid (splice ((partG RS m N W).map (Value.int .i64)) T (ROW.map (Value.int .i64)) = (partG RS (m + 1) N W).map (Value.int .i64)) := by
              show _ = _
              rw [splice_map, HT.out, hROW, partG_step RL.out mlt (by rw [← HT.out]; exact TW)]
            have PLn : Hid (∀ q, q ≤ RS.length → q * W ≤ N → (partG RS q N W).length = N) := fun q h1 h2 => partG_len RL.out h1 h2
            have HE := hide (own_heap OR.out (PLn.out m (by omega) (by rw [← HT.out]; omega)))
            have PLm := hide (PLn.out m (by omega) (by rw [← HT.out]; omega))
            have PLm1 : Hid ((partG RS (m + 1) N W).length = N) := PLn.out (m + 1) (by omega) (by rw [Nat.add_mul, Nat.one_mul, ← HT.out]; exact TW)
            have t1 : ¬ T = N := by omega
            have t2 : ¬ N = T := by omega
            have t3 : (T : Int) ≤ (N : Int) := by omega
            have t4 : T ≤ N := by omega
            obtain ⟨AX1, hAX1⟩ : ∃ z, z = ax + 1 := ⟨_, rfl⟩
            obtain ⟨HD2, hHD2⟩ : ∃ z, z = h * dim := ⟨_, rfl⟩
            obtain ⟨TW2, hTW2⟩ : ∃ z, z = T + W := ⟨_, rfl⟩
            have w1' : Hid (IntKind.i64.wrap ((ax : Int) + 1) = (AX1 : Int)) := by
              show _ = _
              rw [wrap_i64_eq, show (ax : Int) + 1 = (AX1 : Int) from by omega]
              exact wrap64_id (Int.natCast_nonneg _) (Int.ofNat_le.2 (show AX1 ≤ 1000000 by omega))
            have w2' : Hid (IntKind.i64.wrap ((h : Int) * (dim : Int)) = (HD2 : Int)) := by
              show _ = _
              rw [wrap_i64_eq, ← Int.natCast_mul, ← hHD2]
              exact wrap64_id (Int.natCast_nonneg _) (Int.ofNat_le.2 (show HD2 ≤ 1000000 by omega))
            have w3' : Hid (IntKind.i64.wrap ((HD2 : Int) + (pn : Int)) = (I : Int)) := by
              show _ = _
              rw [wrap_i64_eq, ← Int.natCast_add, hHD2, ← hI]
              exact wrap64_id (Int.natCast_nonneg _) (Int.ofNat_le.2 (show I ≤ 1000000 by omega))
            have w4' : Hid (IntKind.i64.wrap ((T : Int) + (W : Int)) = (TW2 : Int)) := by
              show _ = _
              rw [wrap_i64_eq, ← Int.natCast_add, ← hTW2]
              exact wrap64_id (Int.natCast_nonneg _) (Int.ofNat_le.2 (show TW2 ≤ 1000000 by omega))
            have T2 : Hid (TW2 = (m + 1) * W) := by show _ = _; rw [hTW2, HT.out, Nat.add_mul, Nat.one_mul]
            have RC2 : Hid (∀ wx, w1.grownBy wx none → Calls Tryz.prog 58 #[.agg #[.int .i64 tx, .slice (some ⟨db, df, none⟩) ds.length dc, .slice (some ⟨xb, xf, none⟩) xs.length xc], .int .i64 (AX1 : Int), .int .i64 I] wx fun e w' => ∃ u : Sl, e = .returned u.v ∧ IsInts w' u.v ROW ∧ wx.grownBy w' none) := by rw [hAX1]; exact RC.out
            have M2 : Hid (m + 1 = h * Rn + (j + 1)) := by show _ = _; rw [HM.out]; omega
            obtain ⟨x0, x1, x2⟩ := ten_cells (BP.out w1 (grown_refl _))
            have CPY : Hid (∀ (wx : World) (ra : Option Addr) (n c : Nat), IsInts wx (.slice ra n c) ROW → 0 < (ROW.map (Value.int .i64)).length → ∃ ad, ra = some ad ∧ ∀ j v, (ROW.map (Value.int .i64))[j]? = some v → wx.cell? (ad.add j) = some v) := fun wx ra n c hr hp => by
              obtain ⟨b, off, rfl, hc⟩ := hr.get (k := 0) (by rw [List.length_map] at hp; exact hp)
              refine ⟨_, rfl, fun j v hj => ?_⟩
              rw [List.getElem?_map] at hj
              have hl : j < ROW.length := by
                rcases Nat.lt_or_ge j ROW.length with h | h
                · exact h
                · rw [List.getElem?_eq_none h] at hj; cases hj
              rw [List.getElem?_eq_getElem hl] at hj
              cases hj
              have k := hc j hl
              rw [List.getD, List.getElem?_eq_getElem hl, Option.getD_some] at k
              have ea : Addr.add ⟨b, off, none⟩ j = ⟨b, off + j, none⟩ := by unfold Addr.add; split <;> simp_all
              rw [ea]
              exact k
            clear hpn hpd hROW hI hAX1 hHD2 hTW2
            go_wp2_with fail
            refine wp_region_held_drew (S := fun w' => w1.grownBy w' none) (by kernel_rfl) (grown_drew GRr.out) (fun hHeld => ?_)
            refine wpAnyH_take (i := 0) (v := ?_) rfl (by kernel_rfl) (by kernel_rfl) (by kernel_rfl) (fun _ _ _ h => h) (Or.inl ⟨by kernel_rfl, ?_⟩) (by assumption) ?_
            rotate_left 1
            · (intro wS hSw; go_simp; (try with_reducible rfl))
            try simp only [Act.put]
            refine wpAnyH_take (i := 1) (v := ?_) rfl (by kernel_rfl) (by kernel_rfl) (by kernel_rfl) (fun _ _ _ h => h) (Or.inl ⟨by kernel_rfl, ?_⟩) (by assumption) ?_
            rotate_left 1
            · (intro wS hSw; go_simp; (try with_reducible rfl))
            try simp only [Act.put]
            refine wpAnyH_take (i := 2) (v := ?_) rfl (by kernel_rfl) (by kernel_rfl) (by kernel_rfl) (fun _ _ _ h => h) (Or.inl ⟨by kernel_rfl, ?_⟩) (by assumption) ?_
            rotate_left 1
            · (intro wS hSw; go_simp; (try with_reducible rfl))
            try simp only [Act.put]
            refine wpAnyH_take (i := 3) (v := .slice (some ⟨g, T, none⟩) (N - T) (N - T)) rfl (by kernel_rfl) (by kernel_rfl) (by kernel_rfl) (fun _ _ _ h => h) (Or.inl ⟨by kernel_rfl, ?_⟩) (by assumption) ?_
            · (intro wS hSw; go_simp; (try simp only []))
            try simp only [Act.put]
            refine wpAnyH_take (i := 4) (v := ?_) rfl (by kernel_rfl) (by kernel_rfl) (by kernel_rfl) (fun _ _ _ h => h) (Or.inl ⟨by kernel_rfl, ?_⟩) (by assumption) ?_
            rotate_left 1
            · (intro wS hSw; have c0 := cell_still x0 hSw; have c1 := cell_still x1 hSw; have c2 := cell_still x2 hSw; go_simp; (try with_reducible rfl))
            try simp only [Act.put]
            refine wpAnyH_take (i := 5) (v := ?_) rfl (by kernel_rfl) (by kernel_rfl) (by kernel_rfl) (fun _ _ _ h => h) (Or.inl ⟨by kernel_rfl, ?_⟩) (by assumption) ?_
            rotate_left 1
            · (intro wS hSw; go_simp; (try with_reducible rfl))
            try simp only [Act.put]
            refine wpAnyH_take (i := 6) (v := .int .i64 (AX1 : Int)) rfl (by kernel_rfl) (by kernel_rfl) (by kernel_rfl) (fun _ _ _ h => h) (Or.inl ⟨by kernel_rfl, ?_⟩) (by assumption) ?_
            · (intro wS hSw; go_simp; (try simp only [w1'.out]))
            try simp only [Act.put]
            refine wpAnyH_take (i := 7) (v := ?_) rfl (by kernel_rfl) (by kernel_rfl) (by kernel_rfl) (fun _ _ _ h => h) (Or.inl ⟨by kernel_rfl, ?_⟩) (by assumption) ?_
            rotate_left 1
            · (intro wS hSw; go_simp; (try with_reducible rfl))
            try simp only [Act.put]
            refine wpAnyH_take (i := 8) (v := ?_) rfl (by kernel_rfl) (by kernel_rfl) (by kernel_rfl) (fun _ _ _ h => h) (Or.inl ⟨by kernel_rfl, ?_⟩) (by assumption) ?_
            rotate_left 1
            · (intro wS hSw; go_simp; (try with_reducible rfl))
            try simp only [Act.put]
            refine wpAnyH_take (i := 9) (v := .int .i64 (HD2 : Int)) rfl (by kernel_rfl) (by kernel_rfl) (by kernel_rfl) (fun _ _ _ h => h) (Or.inl ⟨by kernel_rfl, ?_⟩) (by assumption) ?_
            · (intro wS hSw; go_simp; (try simp only [w2'.out]))
            try simp only [Act.put]
            refine wpAnyH_take (i := 10) (v := ?_) rfl (by kernel_rfl) (by kernel_rfl) (by kernel_rfl) (fun _ _ _ h => h) (Or.inl ⟨by kernel_rfl, ?_⟩) (by assumption) ?_
            rotate_left 1
            · (intro wS hSw; go_simp; (try with_reducible rfl))
            try simp only [Act.put]
            refine wpAnyH_take (i := 11) (v := .int .i64 (I : Int)) rfl (by kernel_rfl) (by kernel_rfl) (by kernel_rfl) (fun _ _ _ h => h) (Or.inl ⟨by kernel_rfl, ?_⟩) (by assumption) ?_
            · (intro wS hSw; go_simp; (try simp only [w3'.out]))
            try simp only [Act.put]
            refine wpAnyH_ready (rs := [12]) (by kernel_rfl) (by simp) ?_
            refine AllReadyH.cons rfl (fun K hK => ?_) AllReadyH.nil
            go_simp
            refine (RC2.out wr.drew hHeld).mono ?_
            rintro e v1 ⟨⟨ra, rn, rc⟩, rfl, ir, hy1⟩
            obtain ⟨_, _, er, -⟩ := ir.sl
            simp only [Sl.v, Value.slice.injEq] at er
            obtain ⟨-, er, -⟩ := er
            rw [RWL.out] at er
            have er2 := er.symm
            subst er2
            have gv1 : w1.grownBy v1 none := grown_trans hHeld hy1
            have hH1 : v1.heap[g]? = some (.cells ((partG RS m N W).map (Value.int .i64)).toArray 2 (0, 0)) := box_kept HE.out.1 (grown_trans (grown_drew (grown_refl _)) hy1)
            refine hK.out _ _ gv1 (fun hHeld => ?_)
            clear hK K
            try simp only [Act.put]
            refine wpAnyH_ready (rs := [13]) (by kernel_rfl) (by simp) ?_
            refine AllReadyH.cons rfl (fun K hK => ?_) AllReadyH.nil
            refine step_copy_splice rfl (.tmp 51) (.tmp 60) 30 30 rfl 2 Tryz.underlying30 (by kernel_rfl) (some ⟨g, T, none⟩) ra (N - T) (N - T) W rc rfl rfl g T ((partG RS m N W).map (Value.int .i64)) 2 hH1 (ROW.map (Value.int .i64)) (by rw [List.length_map, RWL.out]; exact (Nat.min_eq_left (by omega)).symm) (fun hp => ⟨rfl, CPY.out v1 ra W rc ir hp⟩) (by rw [List.length_map, List.length_map, RWL.out, PLm.out]; exact TW) (by intro v hv; obtain ⟨z, -, rfl⟩ := List.mem_map.1 hv; rfl) g w1 (by rw [HG.out]; exact grown_below gv1) (Nat.le_refl _) ?_
            intro v2 hH2 hb2
            rw [PS.out] at hH2
            have gv2 : w1.grownBy v2 none := grown_of_below (by rw [← HG.out]; exact hb2)
            rw [List.length_map, RWL.out]
            refine hK.out _ _ gv2 (fun hHeld => ?_)
            clear hK K
            try simp only [Act.put]
            refine wpAnyH_take (i := 14) (v := .int .i64 (TW2 : Int)) rfl (by kernel_rfl) (by kernel_rfl) (by kernel_rfl) (fun _ _ _ h => h) (Or.inl ⟨by kernel_rfl, ?_⟩) (by assumption) ?_
            · (intro wS hSw; go_simp; (try simp only [w4'.out]))
            try simp only [Act.put]
            refine wpAnyH_take (i := 15) (v := ?_) rfl (by kernel_rfl) (by kernel_rfl) (by kernel_rfl) (fun _ _ _ h => h) (Or.inl ⟨by kernel_rfl, ?_⟩) (by assumption) ?_
            rotate_left 1
            · (intro wS hSw; go_simp; (try with_reducible rfl))
            try simp only [Act.put]
            refine wpAnyH_done (by kernel_rfl) ?_ _
            have OF : Hid (OwnsE v2 g (.slice (some ⟨g, 0, none⟩) N N) (partG RS (m + 1) N W)) := heap_own hH2.out (Nat.le_refl _) PLm1.out hN5 (RWF.out (m + 1))
            clear hHeld hH1 hH2 hb2 ir hy1 gv1 x0 x1 x2 hcl
            go_simp
            go_wp2_with fail
            go_roundw
            case rel => exact ⟨gv2, j + 1, m + 1, TW2, hjl, M2.out, T2.out, by go_num, rfl, OF.out⟩
            case measure => simp [intOf]; omega
          · obtain rfl : Rn = j := by omega
            have E1 : Hid (m = (h + 1) * Rn) := by show _ = _; rw [HM.out, Nat.add_mul, Nat.one_mul]
            have E2 : Hid (T = (h + 1) * Rn * W) := by show _ = _; rw [HT.out, E1.out]
            rw [E1.out] at OR
            go_wp2_with fail
            go_roundw
            case rel => exact ⟨GRr.out, h + 1, T, hlt, E2.out, by go_num, rfl, OR.out⟩
            case measure => simp [intOf]; omega
      · obtain rfl : A = h := by omega
        have ok : Hid (gathR xs W dim A idx = .ok (partG RS (A * Rn) N W)) := by
          show _ = _
          rw [← RSL.out, partG_done (by rw [NE.out, RSL.out])]
          exact GOK.out
        go_wp2
        go_ret2
        exact ev_ok ok.out (grown_trans G1.out HGO.out) ⟨⟨some ⟨g, 0, none⟩, N, N⟩, rfl, ⟨ownsRow_base HO.out.1 (by rw [HG.out]; exact G1.out.size), HO.out.2⟩⟩
  · have ER : gathR xs W dim A idx = .error 8 := by unfold gathR; rw [hp]; rfl
    have HE := hide ER
    have G1 := hide (grown_trans G0.out hg1)
    clear ER hp hg1
    go_wp2
    go_ret2
    exact ev_err HE.out G1.out

end Go.Proofs.YtaoplfpigjkgpaaGreatDoor
