/- Joined texts: RdSoft2. -/
import Derived.Test.YtahmmilhmoogbaaGreatDoorPartBG
namespace Go.Proofs.YtahmmilhmoogbaaGreatDoor

open Go.RowKit

set_option maxRecDepth 100000 in
set_option maxHeartbeats 8000000 in
theorem softmax0 (n : Nod) (A : At) (X : Ten) (w : World) (hn : NodeOk w n A) (hx : IsInts w X.dv.v [2]) (hxs : IsInts w X.tv.v [0, 0]) (hax : axesO 1 (alongP A 1) (List.replicate 1 false) = some [true]) :
    Calls Tryz.prog 27 #[nval n, .agg #[.int .i64 X.ty, .slice X.dv.a X.dv.n X.dv.c, .slice X.tv.a X.tv.n X.tv.c]] w fun e w' => ∃ s : Sl, e = .returned (.slice s.a s.n s.c) ∧ OwnsE w' w.heap.size s.v [1056964608, 1056964608] ∧ w.grownBy w' none := by
  obtain ⟨i0, hi0, hz0, hz1, hz2⟩ := info_parts info64E
  obtain ⟨ty, ⟨da, dn, dc⟩, ⟨ta, tn, tc⟩⟩ := X
  simp only [Sl.v] at hx hxs ⊢
  have HXS := hide hxs
  obtain ⟨_, _, exs, e1, e2, e3⟩ := hxs.sl
  simp only [Value.slice.injEq, List.length_cons, List.length_nil, Nat.zero_add] at exs
  obtain ⟨rfl, rfl, rfl⟩ := exs
  have GRP : Hid (∀ wx, w.grownBy wx none → Calls Tryz.prog 37 #[nval n, .slice da dn dc] wx fun e w' => ∃ (base Bw : Nat) (rs : List Sl), wx.heap.size ≤ base ∧ e = .returned (.slice (some ⟨Bw, 0, none⟩) 1 1) ∧ Gr w' base Bw 1 [[0, 1]] rs ∧ wx.grownBy w' none) := fun wx hg => groups_any n A ⟨da, dn, dc⟩ [2] [true] wx (hn.more hg) (hx.more hg) (fine_of (by kernel_rfl)) hax rfl
  have hb4 : i0.bytes * 2 ≤ 281474976710656 := by rw [hz2]; omega
  have hb5 : 2 ≤ maxLen := by simp only [maxLen]; omega
  clear hx hxs hax
  have NK := hide hn
  obtain ⟨op, nam, ⟨ia, il, ic⟩, out, ⟨ao, al, cap⟩⟩ := n
  unfold nval
  simp only
  obtain ⟨w0, hw0⟩ : ∃ w0, w0 = w.alloc (.cells #[.string op, .string nam, .slice ia il ic, .string out, .slice ao al cap] 35) := ⟨_, rfl⟩
  have g0 : Hid (w.grownBy w0 none) := by show w.grownBy w0 none; rw [hw0]; exact grown_new _ _
  have hb0 := heap_alloc_new w (.cells #[.string op, .string nam, .slice ia il ic, .string out, .slice ao al cap] 35)
  rw [← hw0] at hb0
  have BX : Hid (∀ wx, w0.grownBy wx none → wx.heap[w.heap.size]? = some (.cells #[.string op, .string nam, .slice ia il ic, .string out, .slice ao al cap] 35 (0, 0))) := fun wx hg => box_kept hb0 hg
  clear hb0 hn
  unfold nval at GRP
  simp only at GRP
  obtain ⟨w1, hw1⟩ : ∃ w1, w1 = w0.alloc (.cells #[.int .i64 ty, .slice da dn dc, .slice ta 2 tc] 25) := ⟨_, rfl⟩
  have hb1 := heap_alloc_new w0 (.cells #[.int .i64 ty, .slice da dn dc, .slice ta 2 tc] 25)
  rw [← hw1] at hb1
  have g1 : w0.grownBy w1 none := by rw [hw1]; exact grown_new _ _
  have hs0 : w0.heap.size = w.heap.size + 1 := by rw [hw0]; simp
  rw [hs0] at hb1
  have BT : Hid (∀ wx, w1.grownBy wx none → wx.heap[w.heap.size + 1]? = some (.cells #[.int .i64 ty, .slice da dn dc, .slice ta 2 tc] 25 (0, 0))) := fun wx hg => box_kept hb1 hg
  have BN : Hid (∀ wx, w1.grownBy wx none → wx.heap[w.heap.size]? = some (.cells #[.string op, .string nam, .slice ia il ic, .string out, .slice ao al cap] 35 (0, 0))) := fun wx hg => BX.out wx (grown_trans g1 hg)
  have G1 := hide (grown_trans g0.out g1)
  have hs1 : Hid (w1.heap.size = w.heap.size + 1 + 1) := by show _ = _; rw [hw1, World.size_alloc, hs0]
  obtain ⟨t0, t1, t2⟩ := ten_cells hb1
  rw [hw1, hw0] at t0 t1 t2
  clear hb1 g1 hs0 BX
  go_enter Tryz.func27, Tryz.ntmps27
  go_wp2_with (first | (refine wpList_make_full _ rfl (.tmp 12) (.tmp 12) 23 rfl w1.heap.size 2 i0 (.int .i64 0) 1 Tryz.underlying23 hi0 hz0 hz1 .i64 .i64 _ _ 2 rfl rfl (by omega) (by omega) hb4 hb5 (by rw [hw1, hw0]; exact Nat.le_refl _) ?_; rw [← hw0, ← hw1]; intro w2 hown2 hg2; obtain ⟨t0, t1, t2⟩ := ten_cells (BT.out w2 hg2); obtain ⟨n0, n1, n2, n3, n4⟩ := nod_cells (n := ⟨op, nam, ⟨ia, il, ic⟩, out, ⟨ao, al, cap⟩⟩) (BN.out w2 hg2)))
  rw [made_zeros] at hown2
  have O1 : Hid (OwnsE w2 w1.heap.size (.slice (some ⟨w1.heap.size, 0, none⟩) 2 2) (List.replicate 2 0)) := by
    refine ⟨by rw [List.length_replicate]; exact hown2, by rw [List.length_replicate]; omega, fun z hz => ?_⟩
    rw [(List.mem_replicate.1 hz).2]
    omega
  have G2 := hide hg2
  have GR := hide (GRP.out w2 (grown_trans G1.out hg2))
  clear hown2 hg2 hb4 hb5 hw0 hw1 GRP
  refine GR.out.mono ?_
  rintro e w3 ⟨base, Bw, rs, hbase, rfl, hgr, hg3⟩
  have HGR := hide hgr
  have G3 := hide hg3
  have O3 := hide (O1.out.more hg3 (.inr (by simp [Value.ownBlock])))
  have hb12 : Hid (w1.heap.size < base) := by
    have h := O1.out.1.lt w1.heap.size rfl
    show _ < _
    omega
  clear hgr hg3 hbase GR t0 t1 t2 n0 n1 n2 n3 n4
  rw [← hs1.out]
  go_wp2
  go_loopw [19] (fun i wr => ∃ k : Nat, k ≤ 1 ∧ i = .int .i64 k ∧ w1.grownBy wr none ∧ w3.grownBy wr (some w1.heap.size) ∧ OwnsE wr w1.heap.size (.slice (some ⟨w1.heap.size, 0, none⟩) 2 2) (if k = 0 then [0, 0] else [1056964608, 1056964608])) (fun i _ => 1 - (intOf i).toNat)
  case atStart => exact ⟨0, by omega, rfl, grown_trans G2.out G3.out, World.grownBy.refl _ _, O3.out⟩
  case round =>
    obtain ⟨k, hk, rfl, hg, hgw, o1⟩ := hrel
    by_cases hlt : k < 1
    · obtain rfl : k = 0 := by omega
      rw [if_pos rfl] at o1
      have HO := hide o1
      have HG := hide hg
      have HGW := hide hgw
      obtain ⟨rc, -⟩ := HGR.out.rd (k := 0) (by omega)
      have EA := HGR.out.each 0 (by omega)
      obtain ⟨⟨ra, rn, rcap⟩, hrv⟩ : ∃ s, s = rs.getD 0 nilG := ⟨_, rfl⟩
      rw [← hrv] at rc EA
      simp only at rc
      have nb : Bw ≠ w1.heap.size := by have h := (HGR.out.row.lt Bw rfl).1; have := hb12.out; omega
      have row' := World.ownsRow.kept HGR.out.row hgw (Or.inr (by simp only [Value.ownBlock, ne_eq, Option.some.injEq]; exact nb))
      have rc' : wr.cell? ⟨Bw, 0, none⟩ = some (.slice ra rn rcap) := by
        have hl := HGR.out.len
        rw [World.ownsRow.cellAt row' 0 (by omega), List.getElem?_map, List.getElem?_eq_getElem (by omega), Option.map_some]
        have e : rs[0] = ⟨ra, rn, rcap⟩ := by rw [hrv]; simp [List.getD, hl]
        rw [e]
      have EW : Hid (∀ wx, wr.grownBy wx (some w1.heap.size) → Owns wx base (.slice ra rn rcap) [0, 1]) := fun wx h => (EA.more hgw (some_orR fun g e e2 => by have := (EA.lt g e).1; have := hb12.out; injection e2 with e2; omega)).more h (some_orR fun g e e2 => by have := (EA.lt g e).1; have := hb12.out; injection e2 with e2; omega)
      have E0 := (EW.out wr (World.grownBy.refl _ _)).ints
      obtain ⟨_, _, en, -⟩ := E0.sl
      simp only [Value.slice.injEq, List.length_cons, List.length_nil, Nat.zero_add] at en
      obtain ⟨rfl, rfl, rfl⟩ := en
      have PK := hide (picked_any ⟨ta, 2, tc⟩ ⟨ra, 2, rcap⟩ [0, 0] [0, 1] wr (HXS.out.more (grown_trans G1.out hg)) E0 (by simp) (fun z hz => by simp at hz; rcases hz with rfl | rfl <;> simp))
      simp only at PK
      obtain ⟨t0, t1, t2⟩ := ten_cells (BT.out wr hg)
      obtain ⟨nb', no, hra, -⟩ := E0.get (k := 0) (by simp)
      subst hra
      have NC : Hid (∀ (wx : World) (j : Nat), wr.grownBy wx (some w1.heap.size) → j < 2 → wx.cell? ⟨nb', no + j, none⟩ = some (.int .i64 (j : Int))) := fun wx j h hj => by
        obtain ⟨b2, o2, e2, hc2⟩ := (EW.out wx h).ints.get (k := 0) (by simp)
        have eq := Option.some.inj e2
        injection eq with q1 q2
        rw [q1, q2, hc2 j (by simpa using hj)]
        match j, hj with
        | 0, _ => rfl
        | 1, _ => rfl
      clear rc hrv nb row' EA EW E0 o1 hg hgw hlt
      go_wp2_with fail
      refine PK.out.mono ?_
      rintro e w4 ⟨⟨pa, pn, pc⟩, rfl, hp4, hg4⟩
      have SH := hide (shares0 ⟨pa, pn, pc⟩ w4 hp4)
      simp only at SH ⊢
      have G4 := hide hg4
      clear PK hp4 hg4 t0 t1 t2 rc'
      go_wp2_with fail
      refine SH.out.mono ?_
      rintro e w5 ⟨⟨sa, sn, sc⟩, rfl, os, hg5⟩
      obtain ⟨_, _, esn, -⟩ := os.ints.sl
      simp only [Sl.v, Value.slice.injEq, List.length_cons, List.length_nil, Nat.zero_add] at esn
      obtain ⟨rfl, rfl, rfl⟩ := esn
      obtain ⟨sb, so, hsa, -⟩ := os.ints.get (k := 0) (by simp)
      simp only at hsa
      subst hsa
      have g45 := grown_trans G4.out hg5
      have OS := hide os
      have O5 := hide (HO.out.more g45 (.inr (by simp [Value.ownBlock])))
      have h14 : w1.heap.size < w4.heap.size := by have h := HO.out.1.lt w1.heap.size rfl; have := G4.out.size; omega
      have SC : Hid (∀ (wx : World) (j : Nat), w5.grownBy wx (some w1.heap.size) → j < 2 → wx.cell? ⟨sb, so + j, none⟩ = some (.int .i64 1056964608)) := fun wx j h hj => by
        have q := OS.out.more h (some_orR fun g e e2 => by have := (World.ownsRow.lt OS.out.1 g e).1; injection e2 with e2; omega)
        obtain ⟨b2, o2, e2, hc2⟩ := q.ints.get (k := 0) (by simp)
        simp only at e2
        have eq := Option.some.inj e2
        injection eq with q1 q2
        rw [q1, q2, hc2 j (by simpa using hj)]
        match j, hj with
        | 0, _ => rfl
        | 1, _ => rfl
      have G5 := hide g45
      have G15 := hide (grown_trans HG.out g45)
      clear os hg5 g45 SH h14 G4
      simp only
      go_wp2
      go_loopw [29] (fun i wx => ∃ j : Nat, j ≤ 2 ∧ i = .int .i64 j ∧ w1.grownBy wx none ∧ w5.grownBy wx (some w1.heap.size) ∧ OwnsE wx w1.heap.size (.slice (some ⟨w1.heap.size, 0, none⟩) 2 2) (List.replicate j 1056964608 ++ List.replicate (2 - j) 0)) (fun i _ => 2 - (intOf i).toNat)
      case atStart => exact ⟨0, by omega, rfl, G15.out, World.grownBy.refl _ _, O5.out⟩
      case round =>
        obtain ⟨j, hj, rfl, hg, hgw, o1⟩ := hrel
        by_cases hlt : j < 2
        · have c1 := SC.out wr j hgw hlt
          have c2 := NC.out wr j (grown_same (grown_anyR G5.out) hgw) hlt
          obtain ⟨a1, a2, a3, a4⟩ := o1.put (by simp; omega) hlt 1056964608 (by omega)
          rw [two_set 0 1056964608 j hlt] at a3
          have N1 := hide a3
          have N2 := hide (grown_drop hg a4 (Nat.le_refl _))
          have N3 := hide (grown_same hgw a4)
          have l1 : (j : Int) < 2 := by omega
          clear hg hgw o1 a3 a4
          go_wp2_with fail
          go_roundw
          case rel => exact ⟨j + 1, by omega, by go_num, N2.out, N3.out, N1.out⟩
          case measure => simp [intOf]; omega
        · have hje : j = 2 := by omega
          subst hje
          have N1 := hide o1
          have N2 := hide hg
          have N3 := hide (grown_same HGW.out (grown_same (grown_anyR G5.out) hgw))
          clear hg hgw o1
          go_wp2_with fail
          go_roundw
          case rel => exact ⟨1, by omega, by go_num, N2.out, N3.out, N1.out⟩
          case measure => simp [intOf]
    · have hke : k = 1 := by omega
      subst hke
      rw [if_neg (by decide)] at o1
      have N1 := hide o1
      have N2 := hide hg
      have hz := hide G1.out.size
      clear o1 hg hgw
      go_wp2
      go_ret
      exact ⟨⟨some ⟨w1.heap.size, 0, none⟩, 2, 2⟩, rfl, ⟨row_base_leR N1.out.1 hz.out, N1.out.2⟩, grown_trans G1.out N2.out⟩

end Go.Proofs.YtahmmilhmoogbaaGreatDoor
