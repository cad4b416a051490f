/- GraphRenamed, by the walk (mkGRenW.py). -/
import Derived.Test.YtflalpchhojenaaDoorGRenQJ
import Derived.Test.YtflalpchhojenaaDoorGRefJ
import Derived.Test.YtflalpchhojenaaDoorNSameNJ
import Derived.Deep.RegionHeld3
namespace Go.Proofs.YtflalpchhojenaaDoor
open Go.RowKit

set_option maxRecDepth 100000 in
set_option maxHeartbeats 12800000 in
theorem graphRenamed_walk (g : Gra) (cs : List Nc) (vin vout : List (Val × List Int)) (its : List (Nam × List Int × List Int)) (old nm : ByteArray) (w : World) (hl : Laid w) (hg : GraphOk w g cs vin vout its) (_ : old.size ≤ 1048576) (hnm : nm.size ≤ 1048576) :
    Calls Tryd.prog 7 #[gval g, .string old, .string nm] w fun e w' => e = .returned (.bool true) ∧ Below w.heap.size w w' := by
  have HL := hide hl
  have HG := hide hg
  have LV := hide (fun (wx : World) (hx : w.grownBy wx none) => glive_any wx (hl.more hx))
  have AG := hide (fun (wx : World) (hx : w.grownBy wx none) => all_any g cs vin vout its wx (hg.more hx))
  have CG := hide (fun (wx : World) (hx : w.grownBy wx none) => copygraph_any g cs vin vout its wx (hg.more hx).base)
  have OA := hide (fun (wx : World) (hx : w.grownBy wx none) => order_any g cs vin vout its wx (hl.more hx) (hg.more hx))
  have RO := hide (fun (h : RenOk (renS old nm) (allN cs vin vout its)) => ren_order h)
  have ALL := hide (show (allN cs vin vout its).length ≤ 1099515822080 by
    have h1 := flat_le (cs := cs) (fun c hc => (hg.is c hc).1)
    have h2 := hg.base.few
    have h3 : cs.length * 1048577 ≤ 1048576 * 1048577 := Nat.mul_le_mul_right _ h2.1
    unfold allN
    simp only [List.length_append, List.length_map]
    omega)
  obtain ⟨f1, f2, f3, f4⟩ := hg.base.few
  clear hg hl
  obtain ⟨OR, hOR⟩ : ∃ OR, OR = orderR cs vin vout its := ⟨_, rfl⟩
  rw [← hOR] at OA RO
  clear hOR
  obtain ⟨OL, OE⟩ := OR
  simp only at OA RO
  obtain ⟨nam, ⟨na0, nn0, nc0⟩, ⟨ia, iN, ic⟩, ⟨oa, oN, oc⟩, ⟨ta, tN, tc⟩⟩ := g
  unfold gval at CG AG OA ⊢
  simp only at CG AG OA ⊢
  obtain ⟨w0, hw0⟩ : ∃ w0, w0 = w.alloc (.cells #[.string nam, .slice na0 nn0 nc0, .slice ia iN ic, .slice oa oN oc, .slice ta tN tc] 26) := ⟨_, rfl⟩
  have g0 : w.grownBy w0 none := by rw [hw0]; exact grown_new _ _
  have b0 := heap_alloc_new w (.cells #[.string nam, .slice na0 nn0 nc0, .slice ia iN ic, .slice oa oN oc, .slice ta tN tc] 26)
  rw [← hw0] at b0
  have BX : Hid (∀ wx, w0.grownBy wx none → wx.heap[w.heap.size]? = some (.cells #[.string nam, .slice na0 nn0 nc0, .slice ia iN ic, .slice oa oN oc, .slice ta tN tc] 26 (0, 0))) := fun wx hx => box_kept b0 hx
  clear b0
  obtain ⟨r0, r1, r2, r3, r4⟩ := gra_cells (g := ⟨nam, ⟨na0, nn0, nc0⟩, ⟨ia, iN, ic⟩, ⟨oa, oN, oc⟩, ⟨ta, tN, tc⟩⟩) (BX.out w0 (grown_refl _))
  rw [hw0] at r0 r1 r2 r3 r4
  go_enter Tryd.func7, Tryd.ntmps7
  go_wp2_with fail
  rw [← hw0]
  clear hw0 r0 r1 r2 r3 r4
  refine (AG.out w0 g0).mono ?_
  rintro e w1 ⟨u, rfl, hu, hg1⟩
  obtain ⟨ua, uc, hue⟩ := OwnsL.form hu
  obtain ⟨AN, hAN⟩ : ∃ AN, AN = allN cs vin vout its := ⟨_, rfl⟩
  rw [← hAN] at hu hue RO ALL
  clear hAN
  have hal := ALL.out
  have HU := hide hu
  rw [hue] at HU ⊢
  clear hu hue
  go_wp2_with fail
  go_loopw [8] (fun i wr => w1.grownBy wr none ∧ ∃ k : Nat, k ≤ AN.length ∧ i = .int .i64 k ∧ nm ∉ AN.take k) (fun i _ => AN.length - (intOf i).toNat)
  case atStart => exact ⟨grown_refl _, 0, Nat.zero_le _, rfl, by simp⟩
  case round =>
    obtain ⟨hgr, k, hk, rfl, hno⟩ := hrel
    have HNO := hide hno
    clear hno
    have gr0 := grown_trans hg1 hgr
    have gw := grown_trans g0 gr0
    by_cases hlt : k < AN.length
    · have HI := (HU.out.isL (bytes := 16) scell_len (by omega)).more hgr
      obtain ⟨sb, so, rfl⟩ := HI.addr hlt
      have d0 := str_at HI k hlt
      have HK : Hid (AN[k]? = some AN[k]) := List.getElem?_eq_getElem hlt
      obtain ⟨Y, hY⟩ : ∃ Y, Y = AN[k] := ⟨_, rfl⟩
      rw [← hY] at d0 HK
      clear HI hY
      by_cases h : (Y.toList == nm.toList) = true
      · go_wp2_with fail
        refine (LV.out wr gw).mono ?_
        rintro e wz ⟨rfl, hgz⟩
        go_wp2
        go_ret
        exact ⟨rfl, grown_below (grown_trans gw hgz)⟩
      · have h' : (Y.toList == nm.toList) = false := by simpa using h
        have HN : Hid (nm ∉ AN.take (k + 1)) := by
          show _ ∉ _
          rw [List.take_add_one, HK.out, List.mem_append]
          rintro (e | e)
          · exact HNO.out e
          · have e2 : nm = Y := by simpa using e
            rw [e2] at h
            simp at h
        clear h
        go_wp2_with fail
        go_roundw
        case rel => exact ⟨hgr, k + 1, by omega, by go_num, HN.out⟩
        case measure => simp [intOf]; omega
    · have hx : nm ∉ AN := by rwa [List.take_of_length_le (by omega)] at HNO
      have HX := hide hx
      clear hx HNO
      by_cases hn1 : (nm.toList == []) = true
      · go_wp2_with fail
        refine (LV.out wr gw).mono ?_
        rintro e wz ⟨rfl, hgz⟩
        go_wp2
        go_ret
        exact ⟨rfl, grown_below (grown_trans gw hgz)⟩
      · have hn1' : (nm.toList == []) = false := by simpa using hn1
        clear hn1
        by_cases hn2 : (old.toList == []) = true
        · go_wp2_with fail
          refine (LV.out wr gw).mono ?_
          rintro e wz ⟨rfl, hgz⟩
          go_wp2
          go_ret
          exact ⟨rfl, grown_below (grown_trans gw hgz)⟩
        · have hn2' : (old.toList == []) = false := by simpa using hn2
          clear hn2
          have REN : Hid (RenOk (renS old nm) AN) := renS_ok HX.out (by simpa using hn1') (by simpa using hn2')
          obtain ⟨r0, r1, r2, r3, r4⟩ := gra_cells (g := ⟨nam, ⟨na0, nn0, nc0⟩, ⟨ia, iN, ic⟩, ⟨oa, oN, oc⟩, ⟨ta, tN, tc⟩⟩) (BX.out wr gr0)
          obtain ⟨w2, hw2⟩ : ∃ w2, w2 = wr := ⟨_, rfl⟩
          rw [← hw2] at gr0 gw r0 r1 r2 r3 r4 ⊢
          clear hw2 hgr
          go_wp2_with fail
          clear r0 r1 r2 r3 r4
          refine (CG.out w2 gw).mono ?_
          rintro e w3 ⟨h, ms, vi, vo, ts, i0, i1, o0, o1, n0, n1, t0, t1, rfl, hc⟩
          have hg3 := hc.grown
          obtain ⟨hnam, ⟨ha0, hn0, hc0⟩, ⟨hia, hiN, hic⟩, ⟨hoa, hoN, hoc⟩, ⟨hta, htN, htc⟩⟩ := h
          have SMC := hide hc.same
          obtain ⟨W1, hW1⟩ : ∃ W1, W1 = w3.alloc (.cells #[.string hnam, .slice ha0 hn0 hc0, .slice hia hiN hic, .slice hoa hoN hoc, .slice hta htN htc] 26) := ⟨_, rfl⟩
          have gW1 : w3.grownBy W1 none := by rw [hW1]; exact grown_new _ _
          have RS1 : Hid (RS w2 w3.heap.size ⟨hnam, ⟨ha0, hn0, hc0⟩, ⟨hia, hiN, hic⟩, ⟨hoa, hoN, hoc⟩, ⟨hta, htN, htc⟩⟩ i0 i1 o0 o1 n0 n1 t0 t1 W1 ms vi vo ts) := by
            refine ⟨by rw [hW1]; exact heap_alloc_new w3 _, hc.ins.more valFeet gW1, hc.outs.more valFeet gW1, hc.nodes.more nodFeet gW1, hc.inits.more namFeet gW1, fun p hp => (hc.nown p hp).kept fun b e => gW1.block b (Nat.lt_of_lt_of_le (hc.nodes.new p hp b e).2.1 hc.nodes.le) (by simp), hc.sep, hc.apt, hc.low, ⟨hc.ins.le, hc.outs.le, hc.nodes.le, hc.inits.le⟩, grown_trans hg3 gW1⟩
          have l1 := key_len hc.kn
          have l2 := key_len hc.ki
          have l3 := key_len hc.ko
          have l4 := key_len hc.kt
          rw [List.length_map] at l1
          have fl1 : ms.length ≤ 1048576 := by omega
          have fl2 : vi.length ≤ 1048576 := by omega
          have fl3 : vo.length ≤ 1048576 := by omega
          have fl4 : ts.length ≤ 1048576 := by omega
          have en1 := own_n hc.nodes
          have en2 := own_n hc.ins
          have en3 := own_n hc.outs
          have en4 := own_n hc.inits
          simp only at en1 en2 en3 en4
          subst en1 en2 en3 en4
          clear hc l1 l2 l3 l4
          go_wp2_with fail
          rw [← hW1]
          clear hW1
          go_loopw [10] (fun i wr => ∃ k : Nat, k ≤ vi.length ∧ i = .int .i64 k ∧ RS w2 w3.heap.size ⟨hnam, ⟨ha0, ms.length, hc0⟩, ⟨hia, vi.length, hic⟩, ⟨hoa, vo.length, hoc⟩, ⟨hta, ts.length, htc⟩⟩ i0 i1 o0 o1 n0 n1 t0 t1 wr ms (curF (renV (renS old nm)) vi k) vo ts) (fun i _ => vi.length - (intOf i).toNat)
          case atStart => exact ⟨0, Nat.zero_le _, rfl, by rw [curF_zero]; exact RS1.out⟩
          case round =>
            obtain ⟨k, hk, rfl, hrs⟩ := hrel
            have R := hide hrs
            clear hrs
            obtain ⟨c0, c1, c2, c3, c4⟩ := gra_cells (g := ⟨hnam, ⟨ha0, ms.length, hc0⟩, ⟨hia, vi.length, hic⟩, ⟨hoa, vo.length, hoc⟩, ⟨hta, ts.length, htc⟩⟩) R.out.box
            simp only at c2
            clear c0 c1 c3 c4
            by_cases hlt : k < vi.length
            · obtain ⟨b, hb⟩ := own_at R.out.ins (k := k) (by rw [curF_len]; exact hlt)
              simp only [Sl.mk.injEq] at hb
              obtain ⟨rfl, -, -⟩ := hb
              have hat := curF_at (renV (renS old nm)) hlt
              have HLk := R.out.ins.isL (bytes := 48) vcells_len (by rw [curF_len]; omega)
              have hlk : k < ((curF (renV (renS old nm)) vi k).map (·.1)).length := by rw [List.length_map, curF_len]; exact hlt
              have a0 := (IsL.val HLk k hlk).1
              obtain ⟨A, q, hA⟩ : ∃ A q, vi[k] = (A, q) := ⟨_, _, rfl⟩
              have eA : ((curF (renV (renS old nm)) vi k).map (·.1))[k] = A := by
                have h1 : ((curF (renV (renS old nm)) vi k).map (·.1))[k]? = some A := by rw [List.getElem?_map, hat, hA]; rfl
                rw [List.getElem?_eq_getElem hlk] at h1
                exact Option.some.inj h1
              rw [eA, Nat.zero_add] at a0
              have fz := owns_cell R.out.ins.own (k * 3)
              rw [hA] at hat
              have ST : Hid (RS w2 w3.heap.size ⟨hnam, ⟨ha0, ms.length, hc0⟩, ⟨some ⟨b, 0, none⟩, vi.length, hic⟩, ⟨hoa, vo.length, hoc⟩, ⟨hta, ts.length, htc⟩⟩ i0 i1 o0 o1 n0 n1 t0 t1 (wr.setCell ⟨b, k * 3, none⟩ (.string (renS old nm A.name))).drew ms (curF (renV (renS old nm)) vi (k + 1)) vo ts) := by
                have s1 := (R.out.setIn rfl hat (renS old nm A.name)).more (grown_drew (grown_refl _))
                have e : (curF (renV (renS old nm)) vi k).set k (⟨renS old nm A.name, A.ty, A.dv⟩, q) = curF (renV (renS old nm)) vi (k + 1) := by
                  rw [← curF_step _ hlt, hA]
                  rfl
                rw [e] at s1
                exact s1
              clear HLk eA hA hat
              have y1 : w3.heap.size ≠ b := by have := R.out.ins.row b rfl; have := R.out.hiB; omega
              have y1' := y1.symm
              go_wp2_with fail
              refine wp_region_held_drew (S := (fun w' => w'.cell? ⟨w3.heap.size, 2, none⟩ = some (.slice (some ⟨b, 0, none⟩) vi.length hic))) (by kernel_rfl) (by go_keep) (fun hHeld => ?_)
              refine wpAnyH_take (i := 0) (v := ?_) rfl (by kernel_rfl) (by kernel_rfl) (by kernel_rfl) (fun _ _ _ h => h) (Or.inl ⟨by rfl, ?_⟩) (by assumption) ?_
              rotate_left 1
              · (intro w hSw; (try dsimp only at hSw); go_simp; (try with_reducible rfl))
              try simp only [Act.put]
              refine wpAnyH_take (i := 2) (v := ?_) rfl (by kernel_rfl) (by kernel_rfl) (by kernel_rfl) (fun _ _ _ h => h) (Or.inl ⟨by rfl, ?_⟩) (by assumption) ?_
              rotate_left 1
              · (intro w hSw; (try dsimp only at hSw); go_simp; (try with_reducible rfl))
              try simp only [Act.put]
              refine wpAnyH_take (i := 3) (v := ?_) rfl (by kernel_rfl) (by kernel_rfl) (by kernel_rfl) (fun _ _ _ h => h) (Or.inl ⟨by rfl, ?_⟩) (by assumption) ?_
              rotate_left 1
              · (intro w hSw; (try dsimp only at hSw); go_simp; (try with_reducible rfl))
              try simp only [Act.put]
              refine wpAnyH_take (i := 5) (v := ?_) rfl (by kernel_rfl) (by kernel_rfl) (by kernel_rfl) (fun _ _ _ h => h) (Or.inl ⟨by rfl, ?_⟩) (by assumption) ?_
              rotate_left 1
              · (intro w hSw; (try dsimp only at hSw); go_simp; (try with_reducible rfl))
              try simp only [Act.put]
              refine wpAnyH_take (i := 9) (v := ?_) rfl (by kernel_rfl) (by kernel_rfl) (by kernel_rfl) (fun _ _ _ h => h) (Or.inl ⟨by rfl, ?_⟩) (by assumption) ?_
              rotate_left 1
              · (intro w hSw; (try dsimp only at hSw); go_simp; (try with_reducible rfl))
              try simp only [Act.put]
              refine wpAnyH_take (i := 10) (v := ?_) rfl (by kernel_rfl) (by kernel_rfl) (by kernel_rfl) (fun _ _ _ h => h) (Or.inl ⟨by rfl, ?_⟩) (by assumption) ?_
              rotate_left 1
              · (intro w hSw; (try dsimp only at hSw); go_simp; (try with_reducible rfl))
              try simp only [Act.put]
              refine wpAnyH_take (i := 1) (v := ?_) rfl (by kernel_rfl) (by kernel_rfl) (by kernel_rfl) (fun _ _ _ h => h) (Or.inl ⟨by rfl, ?_⟩) (by assumption) ?_
              rotate_left 1
              · (intro w hSw; (try dsimp only at hSw); go_simp; (try with_reducible rfl))
              try simp only [Act.put]
              refine wpAnyH_take (i := 4) (v := ?_) rfl (by kernel_rfl) (by kernel_rfl) (by kernel_rfl) (fun _ _ _ h => h) (Or.inl ⟨by rfl, ?_⟩) (by assumption) ?_
              rotate_left 1
              · (intro w hSw; (try dsimp only at hSw); go_simp; (try with_reducible rfl))
              try simp only [Act.put]
              refine wpAnyH_take (i := 6) (v := ?_) rfl (by kernel_rfl) (by kernel_rfl) (by kernel_rfl) (fun _ _ _ h => h) (Or.inl ⟨by rfl, ?_⟩) (by assumption) ?_
              rotate_left 1
              · (intro w hSw; (try dsimp only at hSw); go_simp; (try with_reducible rfl))
              try simp only [Act.put]
              refine wpAnyH_take (i := 7) (v := ?_) rfl (by kernel_rfl) (by kernel_rfl) (by kernel_rfl) (fun _ _ _ h => h) (Or.inl ⟨by rfl, ?_⟩) (by assumption) ?_
              rotate_left 1
              · (intro w hSw; (try dsimp only at hSw); go_simp; (try with_reducible rfl))
              try simp only [Act.put]
              refine wpAnyH_ready (rs := [8]) (by kernel_rfl) (by simp) ?_
              refine AllReadyH.cons rfl (fun K hK => ?_) ?_
              · skip
                go_simp
                refine hK.out _ _ (by first | assumption | go_keep) (fun hHeld => ?_)
                clear hK K
                try simp only [Act.put]
                refine wpAnyH_ready (rs := [11]) (by kernel_rfl) (by simp) ?_
                refine AllReadyH.cons rfl (fun K hK => ?_) ?_
                · skip
                  go_simp
                  refine (turned_any _ _ _ _).mono ?_
                  rintro e wy ⟨rfl, rfl⟩
                  try dsimp only
                  refine hK.out _ _ (by first | assumption | go_keep) (fun hHeld => ?_)
                  clear hK K
                  try simp only [Act.put]
                  refine wpAnyH_take (i := 12) (v := ?_) rfl (by kernel_rfl) (by kernel_rfl) (by kernel_rfl) (fun _ _ _ h => h) (Or.inl ⟨by rfl, ?_⟩) (by assumption) ?_
                  rotate_left 1
                  · (intro w hSw; (try dsimp only at hSw); go_simp; (try with_reducible rfl))
                  try simp only [Act.put]
                  refine wpAnyH_take (i := 13) (v := ?_) rfl (by kernel_rfl) (by kernel_rfl) (by kernel_rfl) (fun _ _ _ h => h) (Or.inl ⟨by rfl, ?_⟩) (by assumption) ?_
                  rotate_left 1
                  · (intro w hSw; (try dsimp only at hSw); go_simp; (try with_reducible rfl))
                  try simp only [Act.put]
                  refine wpAnyH_ready (rs := [14]) (by kernel_rfl) (by simp) ?_
                  refine AllReadyH.cons rfl (fun K hK => ?_) ?_
                  · skip
                    go_simp
                    refine hK.out _ _ (by first | assumption | go_keep) (fun hHeld => ?_)
                    clear hK K
                    try simp only [Act.put]
                    refine wpAnyH_done (by kernel_rfl) ?_ _
                    go_wp2_with fail
                    go_roundw
                    case rel => exact ⟨k + 1, by omega, by go_num, ST.out⟩
                    case measure => simp [intOf]; omega
                  exact AllReadyH.nil
                exact AllReadyH.nil
              exact AllReadyH.nil
            · obtain rfl : k = vi.length := by omega
              rw [curF_full _ (Nat.le_refl _)] at R
              go_wp2_with fail
              clear c2
              go_loopw [11] (fun i wr => ∃ k : Nat, k ≤ vo.length ∧ i = .int .i64 k ∧ RS w2 w3.heap.size ⟨hnam, ⟨ha0, ms.length, hc0⟩, ⟨hia, vi.length, hic⟩, ⟨hoa, vo.length, hoc⟩, ⟨hta, ts.length, htc⟩⟩ i0 i1 o0 o1 n0 n1 t0 t1 wr ms (vi.map (renV (renS old nm))) (curF (renV (renS old nm)) vo k) ts) (fun i _ => vo.length - (intOf i).toNat)
              case atStart => exact ⟨0, Nat.zero_le _, rfl, by rw [curF_zero]; exact R.out⟩
              case round =>
                obtain ⟨k, hk, rfl, hrs⟩ := hrel
                have R := hide hrs
                clear hrs
                obtain ⟨c0, c1, c2, c3, c4⟩ := gra_cells (g := ⟨hnam, ⟨ha0, ms.length, hc0⟩, ⟨hia, vi.length, hic⟩, ⟨hoa, vo.length, hoc⟩, ⟨hta, ts.length, htc⟩⟩) R.out.box
                simp only at c3
                clear c0 c1 c2 c4
                by_cases hlt : k < vo.length
                · obtain ⟨b, hb⟩ := own_at R.out.outs (k := k) (by rw [curF_len]; exact hlt)
                  simp only [Sl.mk.injEq] at hb
                  obtain ⟨rfl, -, -⟩ := hb
                  have hat := curF_at (renV (renS old nm)) hlt
                  have HLk := R.out.outs.isL (bytes := 48) vcells_len (by rw [curF_len]; omega)
                  have hlk : k < ((curF (renV (renS old nm)) vo k).map (·.1)).length := by rw [List.length_map, curF_len]; exact hlt
                  have a0 := (IsL.val HLk k hlk).1
                  obtain ⟨A, q, hA⟩ : ∃ A q, vo[k] = (A, q) := ⟨_, _, rfl⟩
                  have eA : ((curF (renV (renS old nm)) vo k).map (·.1))[k] = A := by
                    have h1 : ((curF (renV (renS old nm)) vo k).map (·.1))[k]? = some A := by rw [List.getElem?_map, hat, hA]; rfl
                    rw [List.getElem?_eq_getElem hlk] at h1
                    exact Option.some.inj h1
                  rw [eA, Nat.zero_add] at a0
                  have fz := owns_cell R.out.outs.own (k * 3)
                  rw [hA] at hat
                  have ST : Hid (RS w2 w3.heap.size ⟨hnam, ⟨ha0, ms.length, hc0⟩, ⟨hia, vi.length, hic⟩, ⟨some ⟨b, 0, none⟩, vo.length, hoc⟩, ⟨hta, ts.length, htc⟩⟩ i0 i1 o0 o1 n0 n1 t0 t1 (wr.setCell ⟨b, k * 3, none⟩ (.string (renS old nm A.name))).drew ms (vi.map (renV (renS old nm))) (curF (renV (renS old nm)) vo (k + 1)) ts) := by
                    have s1 := (R.out.setOut rfl hat (renS old nm A.name)).more (grown_drew (grown_refl _))
                    have e : (curF (renV (renS old nm)) vo k).set k (⟨renS old nm A.name, A.ty, A.dv⟩, q) = curF (renV (renS old nm)) vo (k + 1) := by
                      rw [← curF_step _ hlt, hA]
                      rfl
                    rw [e] at s1
                    exact s1
                  clear HLk eA hA hat
                  have y1 : w3.heap.size ≠ b := by have := R.out.outs.row b rfl; have := R.out.hiB; omega
                  have y1' := y1.symm
                  go_wp2_with fail
                  refine wp_region_held_drew (S := (fun w' => w'.cell? ⟨w3.heap.size, 3, none⟩ = some (.slice (some ⟨b, 0, none⟩) vo.length hoc))) (by kernel_rfl) (by go_keep) (fun hHeld => ?_)
                  refine wpAnyH_take (i := 0) (v := ?_) rfl (by kernel_rfl) (by kernel_rfl) (by kernel_rfl) (fun _ _ _ h => h) (Or.inl ⟨by rfl, ?_⟩) (by assumption) ?_
                  rotate_left 1
                  · (intro w hSw; (try dsimp only at hSw); go_simp; (try with_reducible rfl))
                  try simp only [Act.put]
                  refine wpAnyH_take (i := 2) (v := ?_) rfl (by kernel_rfl) (by kernel_rfl) (by kernel_rfl) (fun _ _ _ h => h) (Or.inl ⟨by rfl, ?_⟩) (by assumption) ?_
                  rotate_left 1
                  · (intro w hSw; (try dsimp only at hSw); go_simp; (try with_reducible rfl))
                  try simp only [Act.put]
                  refine wpAnyH_take (i := 3) (v := ?_) rfl (by kernel_rfl) (by kernel_rfl) (by kernel_rfl) (fun _ _ _ h => h) (Or.inl ⟨by rfl, ?_⟩) (by assumption) ?_
                  rotate_left 1
                  · (intro w hSw; (try dsimp only at hSw); go_simp; (try with_reducible rfl))
                  try simp only [Act.put]
                  refine wpAnyH_take (i := 5) (v := ?_) rfl (by kernel_rfl) (by kernel_rfl) (by kernel_rfl) (fun _ _ _ h => h) (Or.inl ⟨by rfl, ?_⟩) (by assumption) ?_
                  rotate_left 1
                  · (intro w hSw; (try dsimp only at hSw); go_simp; (try with_reducible rfl))
                  try simp only [Act.put]
                  refine wpAnyH_take (i := 9) (v := ?_) rfl (by kernel_rfl) (by kernel_rfl) (by kernel_rfl) (fun _ _ _ h => h) (Or.inl ⟨by rfl, ?_⟩) (by assumption) ?_
                  rotate_left 1
                  · (intro w hSw; (try dsimp only at hSw); go_simp; (try with_reducible rfl))
                  try simp only [Act.put]
                  refine wpAnyH_take (i := 10) (v := ?_) rfl (by kernel_rfl) (by kernel_rfl) (by kernel_rfl) (fun _ _ _ h => h) (Or.inl ⟨by rfl, ?_⟩) (by assumption) ?_
                  rotate_left 1
                  · (intro w hSw; (try dsimp only at hSw); go_simp; (try with_reducible rfl))
                  try simp only [Act.put]
                  refine wpAnyH_take (i := 1) (v := ?_) rfl (by kernel_rfl) (by kernel_rfl) (by kernel_rfl) (fun _ _ _ h => h) (Or.inl ⟨by rfl, ?_⟩) (by assumption) ?_
                  rotate_left 1
                  · (intro w hSw; (try dsimp only at hSw); go_simp; (try with_reducible rfl))
                  try simp only [Act.put]
                  refine wpAnyH_take (i := 4) (v := ?_) rfl (by kernel_rfl) (by kernel_rfl) (by kernel_rfl) (fun _ _ _ h => h) (Or.inl ⟨by rfl, ?_⟩) (by assumption) ?_
                  rotate_left 1
                  · (intro w hSw; (try dsimp only at hSw); go_simp; (try with_reducible rfl))
                  try simp only [Act.put]
                  refine wpAnyH_take (i := 6) (v := ?_) rfl (by kernel_rfl) (by kernel_rfl) (by kernel_rfl) (fun _ _ _ h => h) (Or.inl ⟨by rfl, ?_⟩) (by assumption) ?_
                  rotate_left 1
                  · (intro w hSw; (try dsimp only at hSw); go_simp; (try with_reducible rfl))
                  try simp only [Act.put]
                  refine wpAnyH_take (i := 7) (v := ?_) rfl (by kernel_rfl) (by kernel_rfl) (by kernel_rfl) (fun _ _ _ h => h) (Or.inl ⟨by rfl, ?_⟩) (by assumption) ?_
                  rotate_left 1
                  · (intro w hSw; (try dsimp only at hSw); go_simp; (try with_reducible rfl))
                  try simp only [Act.put]
                  refine wpAnyH_ready (rs := [8]) (by kernel_rfl) (by simp) ?_
                  refine AllReadyH.cons rfl (fun K hK => ?_) ?_
                  · skip
                    go_simp
                    refine hK.out _ _ (by first | assumption | go_keep) (fun hHeld => ?_)
                    clear hK K
                    try simp only [Act.put]
                    refine wpAnyH_ready (rs := [11]) (by kernel_rfl) (by simp) ?_
                    refine AllReadyH.cons rfl (fun K hK => ?_) ?_
                    · skip
                      go_simp
                      refine (turned_any _ _ _ _).mono ?_
                      rintro e wy ⟨rfl, rfl⟩
                      try dsimp only
                      refine hK.out _ _ (by first | assumption | go_keep) (fun hHeld => ?_)
                      clear hK K
                      try simp only [Act.put]
                      refine wpAnyH_take (i := 12) (v := ?_) rfl (by kernel_rfl) (by kernel_rfl) (by kernel_rfl) (fun _ _ _ h => h) (Or.inl ⟨by rfl, ?_⟩) (by assumption) ?_
                      rotate_left 1
                      · (intro w hSw; (try dsimp only at hSw); go_simp; (try with_reducible rfl))
                      try simp only [Act.put]
                      refine wpAnyH_take (i := 13) (v := ?_) rfl (by kernel_rfl) (by kernel_rfl) (by kernel_rfl) (fun _ _ _ h => h) (Or.inl ⟨by rfl, ?_⟩) (by assumption) ?_
                      rotate_left 1
                      · (intro w hSw; (try dsimp only at hSw); go_simp; (try with_reducible rfl))
                      try simp only [Act.put]
                      refine wpAnyH_ready (rs := [14]) (by kernel_rfl) (by simp) ?_
                      refine AllReadyH.cons rfl (fun K hK => ?_) ?_
                      · skip
                        go_simp
                        refine hK.out _ _ (by first | assumption | go_keep) (fun hHeld => ?_)
                        clear hK K
                        try simp only [Act.put]
                        refine wpAnyH_done (by kernel_rfl) ?_ _
                        go_wp2_with fail
                        go_roundw
                        case rel => exact ⟨k + 1, by omega, by go_num, ST.out⟩
                        case measure => simp [intOf]; omega
                      exact AllReadyH.nil
                    exact AllReadyH.nil
                  exact AllReadyH.nil
                · obtain rfl : k = vo.length := by omega
                  rw [curF_full _ (Nat.le_refl _)] at R
                  go_wp2_with fail
                  clear c3
                  go_loopw [12] (fun i wr => ∃ k : Nat, k ≤ ts.length ∧ i = .int .i64 k ∧ RS w2 w3.heap.size ⟨hnam, ⟨ha0, ms.length, hc0⟩, ⟨hia, vi.length, hic⟩, ⟨hoa, vo.length, hoc⟩, ⟨hta, ts.length, htc⟩⟩ i0 i1 o0 o1 n0 n1 t0 t1 wr ms (vi.map (renV (renS old nm))) (vo.map (renV (renS old nm))) (curF (renT (renS old nm)) ts k)) (fun i _ => ts.length - (intOf i).toNat)
                  case atStart => exact ⟨0, Nat.zero_le _, rfl, by rw [curF_zero]; exact R.out⟩
                  case round =>
                    obtain ⟨k, hk, rfl, hrs⟩ := hrel
                    have R := hide hrs
                    clear hrs
                    obtain ⟨c0, c1, c2, c3, c4⟩ := gra_cells (g := ⟨hnam, ⟨ha0, ms.length, hc0⟩, ⟨hia, vi.length, hic⟩, ⟨hoa, vo.length, hoc⟩, ⟨hta, ts.length, htc⟩⟩) R.out.box
                    simp only at c4
                    clear c0 c1 c2 c3
                    by_cases hlt : k < ts.length
                    · obtain ⟨b, hb⟩ := own_at R.out.inits (k := k) (by rw [curF_len]; exact hlt)
                      simp only [Sl.mk.injEq] at hb
                      obtain ⟨rfl, -, -⟩ := hb
                      have hat := curF_at (renT (renS old nm)) hlt
                      have HLk := R.out.inits.isL (bytes := 72) mcells_len (by rw [curF_len]; omega)
                      have hlk : k < ((curF (renT (renS old nm)) ts k).map (·.1)).length := by rw [List.length_map, curF_len]; exact hlt
                      have a0 := (IsL.nam HLk k hlk).1
                      obtain ⟨A, q, hA⟩ : ∃ A q, ts[k] = (A, q) := ⟨_, _, rfl⟩
                      have eA : ((curF (renT (renS old nm)) ts k).map (·.1))[k] = A := by
                        have h1 : ((curF (renT (renS old nm)) ts k).map (·.1))[k]? = some A := by rw [List.getElem?_map, hat, hA]; rfl
                        rw [List.getElem?_eq_getElem hlk] at h1
                        exact Option.some.inj h1
                      rw [eA, Nat.zero_add] at a0
                      have fz := owns_cell R.out.inits.own (k * 4)
                      rw [hA] at hat
                      have ST : Hid (RS w2 w3.heap.size ⟨hnam, ⟨ha0, ms.length, hc0⟩, ⟨hia, vi.length, hic⟩, ⟨hoa, vo.length, hoc⟩, ⟨some ⟨b, 0, none⟩, ts.length, htc⟩⟩ i0 i1 o0 o1 n0 n1 t0 t1 (wr.setCell ⟨b, k * 4, none⟩ (.string (renS old nm A.name))).drew ms (vi.map (renV (renS old nm))) (vo.map (renV (renS old nm))) (curF (renT (renS old nm)) ts (k + 1))) := by
                        have s1 := (R.out.setInit rfl hat (renS old nm A.name)).more (grown_drew (grown_refl _))
                        have e : (curF (renT (renS old nm)) ts k).set k (⟨renS old nm A.name, A.ty, A.dv, A.tv⟩, q) = curF (renT (renS old nm)) ts (k + 1) := by
                          rw [← curF_step _ hlt, hA]
                          rfl
                        rw [e] at s1
                        exact s1
                      clear HLk eA hA hat
                      have y1 : w3.heap.size ≠ b := by have := R.out.inits.row b rfl; have := R.out.hiB; omega
                      have y1' := y1.symm
                      go_wp2_with fail
                      refine wp_region_held_drew (S := (fun w' => w'.cell? ⟨w3.heap.size, 4, none⟩ = some (.slice (some ⟨b, 0, none⟩) ts.length htc))) (by kernel_rfl) (by go_keep) (fun hHeld => ?_)
                      refine wpAnyH_take (i := 0) (v := ?_) rfl (by kernel_rfl) (by kernel_rfl) (by kernel_rfl) (fun _ _ _ h => h) (Or.inl ⟨by rfl, ?_⟩) (by assumption) ?_
                      rotate_left 1
                      · (intro w hSw; (try dsimp only at hSw); go_simp; (try with_reducible rfl))
                      try simp only [Act.put]
                      refine wpAnyH_take (i := 2) (v := ?_) rfl (by kernel_rfl) (by kernel_rfl) (by kernel_rfl) (fun _ _ _ h => h) (Or.inl ⟨by rfl, ?_⟩) (by assumption) ?_
                      rotate_left 1
                      · (intro w hSw; (try dsimp only at hSw); go_simp; (try with_reducible rfl))
                      try simp only [Act.put]
                      refine wpAnyH_take (i := 3) (v := ?_) rfl (by kernel_rfl) (by kernel_rfl) (by kernel_rfl) (fun _ _ _ h => h) (Or.inl ⟨by rfl, ?_⟩) (by assumption) ?_
                      rotate_left 1
                      · (intro w hSw; (try dsimp only at hSw); go_simp; (try with_reducible rfl))
                      try simp only [Act.put]
                      refine wpAnyH_take (i := 5) (v := ?_) rfl (by kernel_rfl) (by kernel_rfl) (by kernel_rfl) (fun _ _ _ h => h) (Or.inl ⟨by rfl, ?_⟩) (by assumption) ?_
                      rotate_left 1
                      · (intro w hSw; (try dsimp only at hSw); go_simp; (try with_reducible rfl))
                      try simp only [Act.put]
                      refine wpAnyH_take (i := 9) (v := ?_) rfl (by kernel_rfl) (by kernel_rfl) (by kernel_rfl) (fun _ _ _ h => h) (Or.inl ⟨by rfl, ?_⟩) (by assumption) ?_
                      rotate_left 1
                      · (intro w hSw; (try dsimp only at hSw); go_simp; (try with_reducible rfl))
                      try simp only [Act.put]
                      refine wpAnyH_take (i := 10) (v := ?_) rfl (by kernel_rfl) (by kernel_rfl) (by kernel_rfl) (fun _ _ _ h => h) (Or.inl ⟨by rfl, ?_⟩) (by assumption) ?_
                      rotate_left 1
                      · (intro w hSw; (try dsimp only at hSw); go_simp; (try with_reducible rfl))
                      try simp only [Act.put]
                      refine wpAnyH_take (i := 1) (v := ?_) rfl (by kernel_rfl) (by kernel_rfl) (by kernel_rfl) (fun _ _ _ h => h) (Or.inl ⟨by rfl, ?_⟩) (by assumption) ?_
                      rotate_left 1
                      · (intro w hSw; (try dsimp only at hSw); go_simp; (try with_reducible rfl))
                      try simp only [Act.put]
                      refine wpAnyH_take (i := 4) (v := ?_) rfl (by kernel_rfl) (by kernel_rfl) (by kernel_rfl) (fun _ _ _ h => h) (Or.inl ⟨by rfl, ?_⟩) (by assumption) ?_
                      rotate_left 1
                      · (intro w hSw; (try dsimp only at hSw); go_simp; (try with_reducible rfl))
                      try simp only [Act.put]
                      refine wpAnyH_take (i := 6) (v := ?_) rfl (by kernel_rfl) (by kernel_rfl) (by kernel_rfl) (fun _ _ _ h => h) (Or.inl ⟨by rfl, ?_⟩) (by assumption) ?_
                      rotate_left 1
                      · (intro w hSw; (try dsimp only at hSw); go_simp; (try with_reducible rfl))
                      try simp only [Act.put]
                      refine wpAnyH_take (i := 7) (v := ?_) rfl (by kernel_rfl) (by kernel_rfl) (by kernel_rfl) (fun _ _ _ h => h) (Or.inl ⟨by rfl, ?_⟩) (by assumption) ?_
                      rotate_left 1
                      · (intro w hSw; (try dsimp only at hSw); go_simp; (try with_reducible rfl))
                      try simp only [Act.put]
                      refine wpAnyH_ready (rs := [8]) (by kernel_rfl) (by simp) ?_
                      refine AllReadyH.cons rfl (fun K hK => ?_) ?_
                      · skip
                        go_simp
                        refine hK.out _ _ (by first | assumption | go_keep) (fun hHeld => ?_)
                        clear hK K
                        try simp only [Act.put]
                        refine wpAnyH_ready (rs := [11]) (by kernel_rfl) (by simp) ?_
                        refine AllReadyH.cons rfl (fun K hK => ?_) ?_
                        · skip
                          go_simp
                          refine (turned_any _ _ _ _).mono ?_
                          rintro e wy ⟨rfl, rfl⟩
                          try dsimp only
                          refine hK.out _ _ (by first | assumption | go_keep) (fun hHeld => ?_)
                          clear hK K
                          try simp only [Act.put]
                          refine wpAnyH_take (i := 12) (v := ?_) rfl (by kernel_rfl) (by kernel_rfl) (by kernel_rfl) (fun _ _ _ h => h) (Or.inl ⟨by rfl, ?_⟩) (by assumption) ?_
                          rotate_left 1
                          · (intro w hSw; (try dsimp only at hSw); go_simp; (try with_reducible rfl))
                          try simp only [Act.put]
                          refine wpAnyH_take (i := 13) (v := ?_) rfl (by kernel_rfl) (by kernel_rfl) (by kernel_rfl) (fun _ _ _ h => h) (Or.inl ⟨by rfl, ?_⟩) (by assumption) ?_
                          rotate_left 1
                          · (intro w hSw; (try dsimp only at hSw); go_simp; (try with_reducible rfl))
                          try simp only [Act.put]
                          refine wpAnyH_ready (rs := [14]) (by kernel_rfl) (by simp) ?_
                          refine AllReadyH.cons rfl (fun K hK => ?_) ?_
                          · skip
                            go_simp
                            refine hK.out _ _ (by first | assumption | go_keep) (fun hHeld => ?_)
                            clear hK K
                            try simp only [Act.put]
                            refine wpAnyH_done (by kernel_rfl) ?_ _
                            go_wp2_with fail
                            go_roundw
                            case rel => exact ⟨k + 1, by omega, by go_num, ST.out⟩
                            case measure => simp [intOf]; omega
                          exact AllReadyH.nil
                        exact AllReadyH.nil
                      exact AllReadyH.nil
                    · obtain rfl : k = ts.length := by omega
                      rw [curF_full _ (Nat.le_refl _)] at R
                      go_wp2_with fail
                      clear c4
                      go_loopw [13] (fun i wr => ∃ k : Nat, k ≤ ms.length ∧ i = .int .i64 k ∧ RS w2 w3.heap.size ⟨hnam, ⟨ha0, ms.length, hc0⟩, ⟨hia, vi.length, hic⟩, ⟨hoa, vo.length, hoc⟩, ⟨hta, ts.length, htc⟩⟩ i0 i1 o0 o1 n0 n1 t0 t1 wr (curF (renN (renS old nm)) ms k) (vi.map (renV (renS old nm))) (vo.map (renV (renS old nm))) (ts.map (renT (renS old nm)))) (fun i _ => ms.length - (intOf i).toNat)
                      case atStart => exact ⟨0, Nat.zero_le _, rfl, by rw [curF_zero]; exact R.out⟩
                      case round =>
                        clear R
                        obtain ⟨k, hk, rfl, hrs⟩ := hrel
                        have R := hide hrs
                        clear hrs
                        obtain ⟨c0, c1, c2, c3, c4⟩ := gra_cells (g := ⟨hnam, ⟨ha0, ms.length, hc0⟩, ⟨hia, vi.length, hic⟩, ⟨hoa, vo.length, hoc⟩, ⟨hta, ts.length, htc⟩⟩) R.out.box
                        simp only at c1
                        by_cases hlt : k < ms.length
                        · clear c0 c2 c3 c4
                          obtain ⟨b, hb⟩ := own_at R.out.nodes (k := k) (by rw [curF_len]; exact hlt)
                          simp only [Sl.mk.injEq] at hb
                          obtain ⟨rfl, -, -⟩ := hb
                          have hat := curF_at (renN (renS old nm)) hlt
                          have HLk := R.out.nodes.isL (bytes := 96) ncells_len (by rw [curF_len]; omega)
                          have hlk : k < ((curF (renN (renS old nm)) ms k).map (·.1)).length := by rw [List.length_map, curF_len]; exact hlt
                          have a3 := (IsL.nod HLk k hlk).2.2.2.1
                          obtain ⟨⟨op, nn, ⟨iva, ivn, ivc⟩, ot, av⟩, ⟨ins, xs, ks⟩, hA⟩ : ∃ A q, ms[k] = (A, q) := ⟨_, _, rfl⟩
                          have eA : ((curF (renN (renS old nm)) ms k).map (·.1))[k] = ⟨op, nn, ⟨iva, ivn, ivc⟩, ot, av⟩ := by
                            have h1 : ((curF (renN (renS old nm)) ms k).map (·.1))[k]? = some ⟨op, nn, ⟨iva, ivn, ivc⟩, ot, av⟩ := by rw [List.getElem?_map, hat, hA]; rfl
                            rw [List.getElem?_eq_getElem hlk] at h1
                            exact Option.some.inj h1
                          rw [eA, Nat.zero_add] at a3
                          have fz := owns_cell R.out.nodes.own (k * 5 + 3)
                          rw [hA] at hat
                          have R1 : Hid (RS w2 w3.heap.size ⟨hnam, ⟨some ⟨b, 0, none⟩, ms.length, hc0⟩, ⟨hia, vi.length, hic⟩, ⟨hoa, vo.length, hoc⟩, ⟨hta, ts.length, htc⟩⟩ i0 i1 o0 o1 n0 n1 t0 t1 (wr.setCell ⟨b, k * 5 + 3, none⟩ (.string (renS old nm ot))).drew ((curF (renN (renS old nm)) ms k).set k (⟨op, nn, ⟨iva, ivn, ivc⟩, renS old nm ot, av⟩, ⟨ins, xs, ks⟩)) (vi.map (renV (renS old nm))) (vo.map (renV (renS old nm))) (ts.map (renT (renS old nm)))) := (R.out.setNodeOut rfl hat (renS old nm ot)).more (grown_drew (grown_refl _))
                          have hin := (R1.out.nown (⟨op, nn, ⟨iva, ivn, ivc⟩, renS old nm ot, av⟩, ⟨ins, xs, ks⟩) (List.mem_iff_getElem?.2 ⟨k, by rw [List.getElem?_set, if_pos rfl, if_pos (by rw [curF_len]; exact hlt)]⟩)).ins
                          obtain ⟨pa, pc, epa⟩ := OwnsL.form hin
                          have hivn : ivn = ins.length := by simp only [Sl.v, Value.slice.injEq] at epa; exact epa.2.1
                          subst hivn
                          have hil : ins.length * 16 ≤ 140737488351232 := by
                            obtain ⟨-, -, -, -, -, h3⟩ := (R.out.nodes.has _ (List.mem_of_getElem? hat)).ins.form
                            exact h3
                          have LAST : Hid ((curF (renN (renS old nm)) ms k).set k (⟨op, nn, ⟨iva, ins.length, ivc⟩, renS old nm ot, av⟩, ⟨ins.map (renS old nm), xs, ks⟩) = curF (renN (renS old nm)) ms (k + 1)) := by
                            show _ = _
                            rw [← curF_step _ hlt, hA]
                            rfl
                          have CL : Hid (k < (curF (renN (renS old nm)) ms k).length) := by show _ < _; rw [curF_len]; exact hlt
                          clear HLk eA hA hat hin epa
                          have y1 : w3.heap.size ≠ b := by have := R.out.nodes.row b rfl; have := R.out.hiB; omega
                          have y1' := y1.symm
                          go_wp2_with fail
                          go_cut [] from 113 to 126 (fun wx => RS w2 w3.heap.size ⟨hnam, ⟨some ⟨b, 0, none⟩, ms.length, hc0⟩, ⟨hia, vi.length, hic⟩, ⟨hoa, vo.length, hoc⟩, ⟨hta, ts.length, htc⟩⟩ i0 i1 o0 o1 n0 n1 t0 t1 wx ((curF (renN (renS old nm)) ms k).set k (⟨op, nn, ⟨iva, ins.length, ivc⟩, renS old nm ot, av⟩, ⟨ins, xs, ks⟩)) (vi.map (renV (renS old nm))) (vo.map (renV (renS old nm))) (ts.map (renT (renS old nm))))
                          case first =>
                            refine wp_region_held_drew (S := (fun w' => w'.cell? ⟨w3.heap.size, 1, none⟩ = some (.slice (some ⟨b, 0, none⟩) ms.length hc0))) (by kernel_rfl) (by go_keep) (fun hHeld => ?_)
                            refine wpAnyH_take (i := 0) (v := ?_) rfl (by kernel_rfl) (by kernel_rfl) (by kernel_rfl) (fun _ _ _ h => h) (Or.inl ⟨by rfl, ?_⟩) (by assumption) ?_
                            rotate_left 1
                            · (intro w hSw; (try dsimp only at hSw); go_simp; (try with_reducible rfl))
                            try simp only [Act.put]
                            refine wpAnyH_take (i := 2) (v := ?_) rfl (by kernel_rfl) (by kernel_rfl) (by kernel_rfl) (fun _ _ _ h => h) (Or.inl ⟨by rfl, ?_⟩) (by assumption) ?_
                            rotate_left 1
                            · (intro w hSw; (try dsimp only at hSw); go_simp; (try with_reducible rfl))
                            try simp only [Act.put]
                            refine wpAnyH_take (i := 3) (v := ?_) rfl (by kernel_rfl) (by kernel_rfl) (by kernel_rfl) (fun _ _ _ h => h) (Or.inl ⟨by rfl, ?_⟩) (by assumption) ?_
                            rotate_left 1
                            · (intro w hSw; (try dsimp only at hSw); go_simp; (try with_reducible rfl))
                            try simp only [Act.put]
                            refine wpAnyH_take (i := 5) (v := ?_) rfl (by kernel_rfl) (by kernel_rfl) (by kernel_rfl) (fun _ _ _ h => h) (Or.inl ⟨by rfl, ?_⟩) (by assumption) ?_
                            rotate_left 1
                            · (intro w hSw; (try dsimp only at hSw); go_simp; (try with_reducible rfl))
                            try simp only [Act.put]
                            refine wpAnyH_take (i := 9) (v := ?_) rfl (by kernel_rfl) (by kernel_rfl) (by kernel_rfl) (fun _ _ _ h => h) (Or.inl ⟨by rfl, ?_⟩) (by assumption) ?_
                            rotate_left 1
                            · (intro w hSw; (try dsimp only at hSw); go_simp; (try with_reducible rfl))
                            try simp only [Act.put]
                            refine wpAnyH_take (i := 10) (v := ?_) rfl (by kernel_rfl) (by kernel_rfl) (by kernel_rfl) (fun _ _ _ h => h) (Or.inl ⟨by rfl, ?_⟩) (by assumption) ?_
                            rotate_left 1
                            · (intro w hSw; (try dsimp only at hSw); go_simp; (try with_reducible rfl))
                            try simp only [Act.put]
                            refine wpAnyH_take (i := 1) (v := ?_) rfl (by kernel_rfl) (by kernel_rfl) (by kernel_rfl) (fun _ _ _ h => h) (Or.inl ⟨by rfl, ?_⟩) (by assumption) ?_
                            rotate_left 1
                            · (intro w hSw; (try dsimp only at hSw); go_simp; (try with_reducible rfl))
                            try simp only [Act.put]
                            refine wpAnyH_take (i := 4) (v := ?_) rfl (by kernel_rfl) (by kernel_rfl) (by kernel_rfl) (fun _ _ _ h => h) (Or.inl ⟨by rfl, ?_⟩) (by assumption) ?_
                            rotate_left 1
                            · (intro w hSw; (try dsimp only at hSw); go_simp; (try with_reducible rfl))
                            try simp only [Act.put]
                            refine wpAnyH_take (i := 6) (v := ?_) rfl (by kernel_rfl) (by kernel_rfl) (by kernel_rfl) (fun _ _ _ h => h) (Or.inl ⟨by rfl, ?_⟩) (by assumption) ?_
                            rotate_left 1
                            · (intro w hSw; (try dsimp only at hSw); go_simp; (try with_reducible rfl))
                            try simp only [Act.put]
                            refine wpAnyH_take (i := 7) (v := ?_) rfl (by kernel_rfl) (by kernel_rfl) (by kernel_rfl) (fun _ _ _ h => h) (Or.inl ⟨by rfl, ?_⟩) (by assumption) ?_
                            rotate_left 1
                            · (intro w hSw; (try dsimp only at hSw); go_simp; (try with_reducible rfl))
                            try simp only [Act.put]
                            refine wpAnyH_ready (rs := [8]) (by kernel_rfl) (by simp) ?_
                            refine AllReadyH.cons rfl (fun K hK => ?_) ?_
                            · skip
                              go_simp
                              refine hK.out _ _ (by first | assumption | go_keep) (fun hHeld => ?_)
                              clear hK K
                              try simp only [Act.put]
                              refine wpAnyH_ready (rs := [11]) (by kernel_rfl) (by simp) ?_
                              refine AllReadyH.cons rfl (fun K hK => ?_) ?_
                              · skip
                                go_simp
                                refine (turned_any _ _ _ _).mono ?_
                                rintro e wy ⟨rfl, rfl⟩
                                try dsimp only
                                refine hK.out _ _ (by first | assumption | go_keep) (fun hHeld => ?_)
                                clear hK K
                                try simp only [Act.put]
                                refine wpAnyH_take (i := 12) (v := ?_) rfl (by kernel_rfl) (by kernel_rfl) (by kernel_rfl) (fun _ _ _ h => h) (Or.inl ⟨by rfl, ?_⟩) (by assumption) ?_
                                rotate_left 1
                                · (intro w hSw; (try dsimp only at hSw); go_simp; (try with_reducible rfl))
                                try simp only [Act.put]
                                refine wpAnyH_take (i := 13) (v := ?_) rfl (by kernel_rfl) (by kernel_rfl) (by kernel_rfl) (fun _ _ _ h => h) (Or.inl ⟨by rfl, ?_⟩) (by assumption) ?_
                                rotate_left 1
                                · (intro w hSw; (try dsimp only at hSw); go_simp; (try with_reducible rfl))
                                try simp only [Act.put]
                                refine wpAnyH_ready (rs := [14]) (by kernel_rfl) (by simp) ?_
                                refine AllReadyH.cons rfl (fun K hK => ?_) ?_
                                · skip
                                  go_simp
                                  refine hK.out _ _ (by first | assumption | go_keep) (fun hHeld => ?_)
                                  clear hK K
                                  try simp only [Act.put]
                                  refine wpAnyH_done (by kernel_rfl) ?_ _
                                  go_wp2_with fail
                                  go_meet
                                  exact R1.out
                                exact AllReadyH.nil
                              exact AllReadyH.nil
                            exact AllReadyH.nil
                          case rest =>
                            have R2 := hide hcut
                            clear hcut R1 R c1 a3 fz
                            go_wp2_with fail
                            go_loopw [14] (fun i wr => ∃ j : Nat, j ≤ ins.length ∧ i = .int .i64 j ∧ RS w2 w3.heap.size ⟨hnam, ⟨some ⟨b, 0, none⟩, ms.length, hc0⟩, ⟨hia, vi.length, hic⟩, ⟨hoa, vo.length, hoc⟩, ⟨hta, ts.length, htc⟩⟩ i0 i1 o0 o1 n0 n1 t0 t1 wr ((curF (renN (renS old nm)) ms k).set k (⟨op, nn, ⟨iva, ins.length, ivc⟩, renS old nm ot, av⟩, ⟨curF (renS old nm) ins j, xs, ks⟩)) (vi.map (renV (renS old nm))) (vo.map (renV (renS old nm))) (ts.map (renT (renS old nm)))) (fun i _ => ins.length - (intOf i).toNat)
                            case atStart => exact ⟨0, Nat.zero_le _, rfl, by rw [curF_zero]; exact R2.out⟩
                            case round =>
                              obtain ⟨j, hj, rfl, hrs⟩ := hrel
                              have Q := hide hrs
                              clear hrs R2
                              obtain ⟨c0, c1, c2, c3, c4⟩ := gra_cells (g := ⟨hnam, ⟨some ⟨b, 0, none⟩, ms.length, hc0⟩, ⟨hia, vi.length, hic⟩, ⟨hoa, vo.length, hoc⟩, ⟨hta, ts.length, htc⟩⟩) Q.out.box
                              simp only at c1
                              clear c0 c2 c3 c4
                              have hat2 : ((curF (renN (renS old nm)) ms k).set k (⟨op, nn, ⟨iva, ins.length, ivc⟩, renS old nm ot, av⟩, ⟨curF (renS old nm) ins j, xs, ks⟩))[k]? = some (⟨op, nn, ⟨iva, ins.length, ivc⟩, renS old nm ot, av⟩, ⟨curF (renS old nm) ins j, xs, ks⟩) := by rw [List.getElem?_set, if_pos rfl, if_pos CL.out]
                              have HLk := Q.out.nodes.isL (bytes := 96) ncells_len (by rw [List.length_set, curF_len]; omega)
                              have hlk : k < (((curF (renN (renS old nm)) ms k).set k (⟨op, nn, ⟨iva, ins.length, ivc⟩, renS old nm ot, av⟩, ⟨curF (renS old nm) ins j, xs, ks⟩)).map (·.1)).length := by rw [List.length_map, List.length_set]; exact CL.out
                              have a2 := (IsL.nod HLk k hlk).2.2.1
                              have eA : (((curF (renN (renS old nm)) ms k).set k (⟨op, nn, ⟨iva, ins.length, ivc⟩, renS old nm ot, av⟩, ⟨curF (renS old nm) ins j, xs, ks⟩)).map (·.1))[k] = ⟨op, nn, ⟨iva, ins.length, ivc⟩, renS old nm ot, av⟩ := by
                                have h1 : (((curF (renN (renS old nm)) ms k).set k (⟨op, nn, ⟨iva, ins.length, ivc⟩, renS old nm ot, av⟩, ⟨curF (renS old nm) ins j, xs, ks⟩)).map (·.1))[k]? = some ⟨op, nn, ⟨iva, ins.length, ivc⟩, renS old nm ot, av⟩ := by rw [List.getElem?_map, hat2]; rfl
                                rw [List.getElem?_eq_getElem hlk] at h1
                                exact Option.some.inj h1
                              rw [eA, Nat.zero_add] at a2
                              simp only at a2
                              clear HLk hlk eA
                              by_cases hlj : j < ins.length
                              · have hown := (Q.out.nown _ (List.mem_of_getElem? hat2)).ins
                                simp only at hown
                                obtain ⟨bi, cap, e, -⟩ := World.ownsRow.form hown (by rw [curF_len]; omega)
                                simp only [Sl.v, Value.slice.injEq] at e
                                obtain ⟨rfl, -, rfl⟩ := e
                                have fz := owns_cell hown j
                                have hatj := curF_at (renS old nm) hlj
                                have d0 := str_at (hown.isL (bytes := 16) scell_len (by rw [curF_len]; exact hil)) j (by rw [curF_len]; exact hlj)
                                obtain ⟨X, hX⟩ : ∃ X, X = ins[j] := ⟨_, rfl⟩
                                have eX : (curF (renS old nm) ins j)[j]'(by rw [curF_len]; exact hlj) = X := by
                                  rw [List.getElem?_eq_getElem (by rw [curF_len]; exact hlj)] at hatj
                                  rw [hX]
                                  exact Option.some.inj hatj
                                rw [eX, Nat.zero_add] at d0
                                have ST : Hid (RS w2 w3.heap.size ⟨hnam, ⟨some ⟨b, 0, none⟩, ms.length, hc0⟩, ⟨hia, vi.length, hic⟩, ⟨hoa, vo.length, hoc⟩, ⟨hta, ts.length, htc⟩⟩ i0 i1 o0 o1 n0 n1 t0 t1 (wr.setCell ⟨bi, j, none⟩ (.string (renS old nm X))).drew ((curF (renN (renS old nm)) ms k).set k (⟨op, nn, ⟨some ⟨bi, 0, none⟩, ins.length, ivc⟩, renS old nm ot, av⟩, ⟨curF (renS old nm) ins (j + 1), xs, ks⟩)) (vi.map (renV (renS old nm))) (vo.map (renV (renS old nm))) (ts.map (renT (renS old nm)))) := by
                                  have s1 := (Q.out.setNodeIn hat2 rfl (x := X) (by simp only; rw [hatj, hX]) (renS old nm X)).more (grown_drew (grown_refl _))
                                  simp only at s1
                                  rw [List.set_set, hX, curF_step _ hlj, ← hX] at s1
                                  exact s1
                                clear hown hatj eX hX
                                have hnb := Q.out.nodes.new _ (List.mem_of_getElem? hat2) bi (Or.inl rfl)
                                have y2 : w3.heap.size ≠ bi := by have := Q.out.hiB; omega
                                have y2' := y2.symm
                                have y3 : b ≠ bi := fun e => hnb.2.2 (by rw [e]; rfl)
                                have y3' := y3.symm
                                clear hat2 hnb
                                go_wp2_with fail
                                refine wp_region_held_drew (S := (fun w' => w'.cell? ⟨w3.heap.size, 1, none⟩ = some (.slice (some ⟨b, 0, none⟩) ms.length hc0) ∧ w'.cell? ⟨b, k * 5 + 2, none⟩ = some (.slice (some ⟨bi, 0, none⟩) ins.length ivc))) (by kernel_rfl) (by go_keep) (fun hHeld => ?_)
                                refine wpAnyH_take (i := 0) (v := ?_) rfl (by kernel_rfl) (by kernel_rfl) (by kernel_rfl) (fun _ _ _ h => h) (Or.inl ⟨by rfl, ?_⟩) (by assumption) ?_
                                rotate_left 1
                                · (intro w hSw; (try dsimp only at hSw); go_simp; (try with_reducible rfl))
                                try simp only [Act.put]
                                refine wpAnyH_take (i := 2) (v := ?_) rfl (by kernel_rfl) (by kernel_rfl) (by kernel_rfl) (fun _ _ _ h => h) (Or.inl ⟨by rfl, ?_⟩) (by assumption) ?_
                                rotate_left 1
                                · (intro w hSw; (try dsimp only at hSw); go_simp; (try with_reducible rfl))
                                try simp only [Act.put]
                                refine wpAnyH_take (i := 6) (v := ?_) rfl (by kernel_rfl) (by kernel_rfl) (by kernel_rfl) (fun _ _ _ h => h) (Or.inl ⟨by rfl, ?_⟩) (by assumption) ?_
                                rotate_left 1
                                · (intro w hSw; (try dsimp only at hSw); go_simp; (try with_reducible rfl))
                                try simp only [Act.put]
                                refine wpAnyH_take (i := 7) (v := ?_) rfl (by kernel_rfl) (by kernel_rfl) (by kernel_rfl) (fun _ _ _ h => h) (Or.inl ⟨by rfl, ?_⟩) (by assumption) ?_
                                rotate_left 1
                                · (intro w hSw; (try dsimp only at hSw); go_simp; (try with_reducible rfl))
                                try simp only [Act.put]
                                refine wpAnyH_take (i := 9) (v := ?_) rfl (by kernel_rfl) (by kernel_rfl) (by kernel_rfl) (fun _ _ _ h => h) (Or.inl ⟨by rfl, ?_⟩) (by assumption) ?_
                                rotate_left 1
                                · (intro w hSw; (try dsimp only at hSw); go_simp; (try with_reducible rfl))
                                try simp only [Act.put]
                                refine wpAnyH_take (i := 13) (v := ?_) rfl (by kernel_rfl) (by kernel_rfl) (by kernel_rfl) (fun _ _ _ h => h) (Or.inl ⟨by rfl, ?_⟩) (by assumption) ?_
                                rotate_left 1
                                · (intro w hSw; (try dsimp only at hSw); go_simp; (try with_reducible rfl))
                                try simp only [Act.put]
                                refine wpAnyH_take (i := 16) (v := ?_) rfl (by kernel_rfl) (by kernel_rfl) (by kernel_rfl) (fun _ _ _ h => h) (Or.inl ⟨by rfl, ?_⟩) (by assumption) ?_
                                rotate_left 1
                                · (intro w hSw; (try dsimp only at hSw); go_simp; (try with_reducible rfl))
                                try simp only [Act.put]
                                refine wpAnyH_take (i := 17) (v := ?_) rfl (by kernel_rfl) (by kernel_rfl) (by kernel_rfl) (fun _ _ _ h => h) (Or.inl ⟨by rfl, ?_⟩) (by assumption) ?_
                                rotate_left 1
                                · (intro w hSw; (try dsimp only at hSw); go_simp; (try with_reducible rfl))
                                try simp only [Act.put]
                                refine wpAnyH_take (i := 1) (v := ?_) rfl (by kernel_rfl) (by kernel_rfl) (by kernel_rfl) (fun _ _ _ h => h) (Or.inl ⟨by rfl, ?_⟩) (by assumption) ?_
                                rotate_left 1
                                · (intro w hSw; (try dsimp only at hSw); go_simp; (try with_reducible rfl))
                                try simp only [Act.put]
                                refine wpAnyH_take (i := 8) (v := ?_) rfl (by kernel_rfl) (by kernel_rfl) (by kernel_rfl) (fun _ _ _ h => h) (Or.inl ⟨by rfl, ?_⟩) (by assumption) ?_
                                rotate_left 1
                                · (intro w hSw; (try dsimp only at hSw); go_simp; (try with_reducible rfl))
                                try simp only [Act.put]
                                refine wpAnyH_take (i := 3) (v := ?_) rfl (by kernel_rfl) (by kernel_rfl) (by kernel_rfl) (fun _ _ _ h => h) (Or.inl ⟨by rfl, ?_⟩) (by assumption) ?_
                                rotate_left 1
                                · (intro w hSw; (try dsimp only at hSw); go_simp; (try with_reducible rfl))
                                try simp only [Act.put]
                                refine wpAnyH_take (i := 10) (v := ?_) rfl (by kernel_rfl) (by kernel_rfl) (by kernel_rfl) (fun _ _ _ h => h) (Or.inl ⟨by rfl, ?_⟩) (by assumption) ?_
                                rotate_left 1
                                · (intro w hSw; (try dsimp only at hSw); go_simp; (try with_reducible rfl))
                                try simp only [Act.put]
                                refine wpAnyH_take (i := 4) (v := ?_) rfl (by kernel_rfl) (by kernel_rfl) (by kernel_rfl) (fun _ _ _ h => h) (Or.inl ⟨by rfl, ?_⟩) (by assumption) ?_
                                rotate_left 1
                                · (intro w hSw; (try dsimp only at hSw); go_simp; (try with_reducible rfl))
                                try simp only [Act.put]
                                refine wpAnyH_take (i := 11) (v := ?_) rfl (by kernel_rfl) (by kernel_rfl) (by kernel_rfl) (fun _ _ _ h => h) (Or.inl ⟨by rfl, ?_⟩) (by assumption) ?_
                                rotate_left 1
                                · (intro w hSw; (try dsimp only at hSw); go_simp; (try with_reducible rfl))
                                try simp only [Act.put]
                                refine wpAnyH_take (i := 5) (v := ?_) rfl (by kernel_rfl) (by kernel_rfl) (by kernel_rfl) (fun _ _ _ h => h) (Or.inl ⟨by rfl, ?_⟩) (by assumption) ?_
                                rotate_left 1
                                · (intro w hSw; (try dsimp only at hSw); go_simp; (try with_reducible rfl))
                                try simp only [Act.put]
                                refine wpAnyH_take (i := 12) (v := ?_) rfl (by kernel_rfl) (by kernel_rfl) (by kernel_rfl) (fun _ _ _ h => h) (Or.inl ⟨by rfl, ?_⟩) (by assumption) ?_
                                rotate_left 1
                                · (intro w hSw; (try dsimp only at hSw); go_simp; (try with_reducible rfl))
                                try simp only [Act.put]
                                refine wpAnyH_take (i := 14) (v := ?_) rfl (by kernel_rfl) (by kernel_rfl) (by kernel_rfl) (fun _ _ _ h => h) (Or.inl ⟨by rfl, ?_⟩) (by assumption) ?_
                                rotate_left 1
                                · (intro w hSw; (try dsimp only at hSw); go_simp; (try with_reducible rfl))
                                try simp only [Act.put]
                                refine wpAnyH_ready (rs := [15]) (by kernel_rfl) (by simp) ?_
                                refine AllReadyH.cons rfl (fun K hK => ?_) ?_
                                · skip
                                  go_simp
                                  refine hK.out _ _ (by first | assumption | go_keep) (fun hHeld => ?_)
                                  clear hK K
                                  try simp only [Act.put]
                                  refine wpAnyH_ready (rs := [18]) (by kernel_rfl) (by simp) ?_
                                  refine AllReadyH.cons rfl (fun K hK => ?_) ?_
                                  · skip
                                    go_simp
                                    refine (turned_any _ _ _ _).mono ?_
                                    rintro e wy ⟨rfl, rfl⟩
                                    try dsimp only
                                    refine hK.out _ _ (by first | assumption | go_keep) (fun hHeld => ?_)
                                    clear hK K
                                    try simp only [Act.put]
                                    refine wpAnyH_take (i := 19) (v := ?_) rfl (by kernel_rfl) (by kernel_rfl) (by kernel_rfl) (fun _ _ _ h => h) (Or.inl ⟨by rfl, ?_⟩) (by assumption) ?_
                                    rotate_left 1
                                    · (intro w hSw; (try dsimp only at hSw); go_simp; (try with_reducible rfl))
                                    try simp only [Act.put]
                                    refine wpAnyH_ready (rs := [20]) (by kernel_rfl) (by simp) ?_
                                    refine AllReadyH.cons rfl (fun K hK => ?_) ?_
                                    · skip
                                      go_simp
                                      refine hK.out _ _ (by first | assumption | go_keep) (fun hHeld => ?_)
                                      clear hK K
                                      try simp only [Act.put]
                                      refine wpAnyH_done (by kernel_rfl) ?_ _
                                      go_wp2_with fail
                                      go_roundw
                                      case rel => exact ⟨j + 1, by omega, by go_num, ST.out⟩
                                      case measure => simp [intOf]; omega
                                    exact AllReadyH.nil
                                  exact AllReadyH.nil
                                exact AllReadyH.nil
                              · obtain rfl : j = ins.length := by omega
                                rw [curF_full _ (Nat.le_refl _), LAST.out] at Q
                                clear hat2
                                go_wp2_with fail
                                go_roundw
                                case rel => exact ⟨k + 1, by omega, by go_num, Q.out⟩
                                case measure => simp [intOf]; omega
                        · obtain rfl : k = ms.length := by omega
                          rw [curF_full _ (Nat.le_refl _)] at R
                          clear c0 c2 c3 c4
                          have gR := R.out.grown
                          have gwR := grown_trans gw gR
                          obtain ⟨r0, r1, r2, r3, r4⟩ := gra_cells (g := ⟨nam, ⟨na0, nn0, nc0⟩, ⟨ia, iN, ic⟩, ⟨oa, oN, oc⟩, ⟨ta, tN, tc⟩⟩) (BX.out wr (grown_trans gr0 gR))
                          go_wp2_with fail
                          clear r0 r1 r2 r3 r4 c1
                          refine (OA.out wr gwR).mono ?_
                          rintro e w5 ⟨⟨pa, pn, pc⟩, rfl, ho5, hg5⟩
                          have HP := hide ho5.ints
                          have R5 := hide (R.out.more hg5)
                          clear ho5 R
                          have EQ : orderR ((ms.map toNc).map (renC (renS old nm))) (vi.map (renV (renS old nm))) (vo.map (renV (renS old nm))) (ts.map (renT (renS old nm))) = (OL, OE) := by
                            rw [← RO.out REN.out]
                            exact (ren_same SMC.out).order
                          have OB := hide (order_any _ _ _ _ _ w5 (HL.out.more (grown_trans gwR hg5)) (RS.ok SMC.out HG.out hnm R5.out))
                          rw [EQ] at OB
                          unfold gval at OB
                          simp only at OB
                          obtain ⟨c0, c1, c2, c3, c4⟩ := gra_cells (g := ⟨hnam, ⟨ha0, ms.length, hc0⟩, ⟨hia, vi.length, hic⟩, ⟨hoa, vo.length, hoc⟩, ⟨hta, ts.length, htc⟩⟩) R5.out.box
                          simp only at c0 c1 c2 c3 c4
                          clear EQ
                          go_wp2_with fail
                          clear c0 c1 c2 c3 c4
                          refine OB.out.mono ?_
                          rintro e w6 ⟨⟨qa, qn, qc⟩, rfl, ho6, hg6⟩
                          have SI := hide (sameints_eq _ _ _ w6 (HP.out.more hg6) ho6.ints)
                          clear ho6
                          go_wp2_with fail
                          refine SI.out.mono ?_
                          rintro e w7 ⟨rfl, hg7⟩
                          have g7 := grown_trans (grown_trans (grown_trans gwR hg5) hg6) hg7
                          go_wp2_with fail
                          refine (LV.out w7 g7).mono ?_
                          rintro e wz ⟨rfl, hgz⟩
                          go_wp2
                          go_ret
                          exact ⟨rfl, grown_below (grown_trans g7 hgz)⟩
end Go.Proofs.YtflalpchhojenaaDoor
