/- everywhere over whatever is done at a place, told by a relation, by the walk (mkElEv.py). -/
import Derived.Test.YteigfipgmghgmaaGreatDoorEEv
namespace Go.Proofs.YteigfipgmghgmaaGreatDoor
open Go.RowKit

/-- The elements at a place. -/
def colL (cols : List (List Int)) (k : Nat) : List Int := cols.map (·.getD k 0)

theorem col_at (cols : List (Sl × List Int)) (k : Nat) : colL (cols.map (·.2)) k = colAt cols k := by
  unfold colL colAt
  rw [List.map_map]
  rfl

/-- How what is done at a place ends: with an error, or with an element as it should be. -/
def OneQ (P : Int → Prop) (w : World) (e : Ending) (w' : World) : Prop := ∃ v c : Int, e = .returned (.tuple #[.int .i64 v, .int .i64 c]) ∧ (c = 0 → (-9223372036854775808 ≤ v ∧ v ≤ 9223372036854775807) ∧ P v) ∧ ∃ q, w' = w.drewN q

/-- What a closure answers of the elements at a place: an element as it should be, or an error. -/
def CloQ (P : List Int → Int → Prop) (xs : List Int) (w : World) (e : Ending) (w' : World) : Prop := OneQ (P xs) w e w'

/-- How everywhere ends: with an error, or with elements each of which is as it should be. -/
def EvS (w : World) (P : List Int → Int → Prop) (cols : List (List Int)) (n : Nat) (e : Ending) (w' : World) : Prop := w.grownBy w' none ∧ ((∃ c : Int, c ≠ 0 ∧ e = .returned (.tuple #[.slice none 0 0, .int .i64 c])) ∨ ∃ (u : Sl) (zs : List Int), e = .returned (.tuple #[.slice u.a u.n u.c, .int .i64 0]) ∧ OwnsE w' w.heap.size u.v zs ∧ zs.length = n ∧ ∀ j, j < n → P (colL cols j) (zs.getD j 0))

set_option maxRecDepth 100000 in
set_option maxHeartbeats 8000000 in
theorem every_any (cv : Sl) (cols : List (Sl × List Int)) (n m : Nat) (P : List Int → Int → Prop) (fn : Nat) (cap : Array Value) (w : World) (hc : IsCols w cv.v (cols.map (·.1))) (hi : ∀ c ∈ cols, IsInts w c.1.v c.2 ∧ c.2.length = n) (hm : cols.length = m) (hm0 : 0 < m) (hm1 : m ≤ 1000) (hn : n ≤ 65536)
    (CF : ∀ (args : Array Value) (wx : World), (callFunc fn args).run Tryz.prog wx = .ok (.enter fn args) wx)
    (WC : ∀ (wx : World) (B : Nat) (xs : List Int), w.grownBy wx none → xs.length = m → IsInts wx (.slice (some ⟨B, 0, none⟩) m m) xs → Calls Tryz.prog fn (#[.slice (some ⟨B, 0, none⟩) m m] ++ cap) wx (CloQ P xs wx)) :
    Calls Tryz.prog 24 #[.slice cv.a cv.n cv.c, .func (.func fn) #[] cap] w (EvS w P (cols.map (·.2)) n) := by
  obtain ⟨i0, hi0, hz0, hz1, hz2⟩ := info_parts info64E
  obtain ⟨xa, xc, e1, q1, q2, q3⟩ := hc.form
  rw [List.length_map, hm] at e1 q1 q3
  obtain ⟨ca, cn, cc⟩ := cv
  simp only [Sl.v, Value.slice.injEq] at e1
  obtain ⟨rfl, hcn, rfl⟩ := e1
  replace hcn := hcn.symm
  subst hcn
  obtain ⟨b, off, rfl⟩ := hc.addr (k := 0) (by rw [List.length_map]; omega)
  have HC := hide hc
  have HI := hide hi
  have HM := hide hm
  have HWC := hide WC
  have HCF := hide CF
  have c0 := hc.at 0 (by rw [List.length_map]; omega) 0 (by omega)
  rw [List.getElem_map] at c0
  have hlen := (hi cols[0] (List.getElem_mem (by omega))).2
  have hsl := (hi cols[0] (List.getElem_mem (by omega))).1.sl
  obtain ⟨sx, sc, es, -, -, -⟩ := hsl
  rw [hlen] at es
  obtain ⟨⟨s0a, s0n, s0c⟩, hs0⟩ : ∃ s0 : Sl, s0 = cols[0].1 := ⟨_, rfl⟩
  rw [← hs0] at c0 es
  simp only [Sl.v, Value.slice.injEq] at es
  obtain ⟨rfl, hsn, rfl⟩ := es
  replace hsn := hsn.symm
  subst hsn
  have c0' : w.cell? ⟨b, off, none⟩ = some (.slice s0a n s0c) := by simpa [scellS] using c0
  clear c0 hs0 hlen hc hi hm WC CF
  have hb4 : i0.bytes * n ≤ 281474976710656 := by rw [hz2]; omega
  have hb5 : n ≤ maxLen := by simp only [maxLen]; omega
  have hb6 : i0.bytes * m ≤ 281474976710656 := by rw [hz2]; omega
  have hb7 : m ≤ maxLen := by simp only [maxLen]; omega
  go_enter Tryz.func24, Tryz.ntmps24
  go_wp2_with (first | (refine wpList_make_full _ rfl (.tmp 16) (.tmp 16) 30 rfl w.heap.size 2 i0 (.int .i64 0) 1 Tryz.underlying30 hi0 hz0 hz1 .i64 .i64 _ _ n rfl rfl rfl rfl hb4 hb5 (Nat.le_refl _) ?_; intro w1 hown1 hg1) | (refine wpList_make_full _ rfl (.tmp 19) (.tmp 19) 30 rfl w.heap.size 2 i0 (.int .i64 0) 1 Tryz.underlying30 hi0 hz0 hz1 .i64 .i64 _ _ m rfl rfl rfl rfl hb6 hb7 hg1.size ?_; intro w2 hown2 hg2))
  rw [made_zeros] at hown1 hown2
  have O1 := hide ((zeros_ownsE (by omega) hown1).more hg2 (.inr (by simp [Value.ownBlock])))
  have O2 := hide (zeros_ownsE (by omega) hown2)
  have G2 := hide (grown_trans hg1 hg2)
  have L1 : Hid (w.heap.size < w1.heap.size) := (World.ownsRow.lt hown1 w.heap.size rfl).2
  obtain ⟨g2, hg2e⟩ : ∃ g2, g2 = w1.heap.size := ⟨_, rfl⟩
  rw [← hg2e] at O2 L1 ⊢
  clear hown1 hown2 hg1 hg2 hg2e c0' hb4 hb5 hb6 hb7
  go_loopw [23] (fun i wr => w.grownBy wr none ∧ ∃ (k : Nat) (pre xs : List Int), k ≤ n ∧ i = .int .i64 k ∧ pre.length = k ∧ xs.length = m ∧ (∀ j, j < k → P (colAt cols j) (pre.getD j 0)) ∧ OwnsE wr w.heap.size (.slice (some ⟨w.heap.size, 0, none⟩) n n) (pre ++ List.replicate (n - k) 0) ∧ OwnsE wr w.heap.size (.slice (some ⟨g2, 0, none⟩) m m) xs) (fun i _ => n - (intOf i).toNat)
  case atStart => exact ⟨G2.out, 0, [], List.replicate m 0, Nat.zero_le _, rfl, rfl, by simp, fun j hj => by omega, by simpa using O1.out, O2.out⟩
  case round =>
    obtain ⟨hg, k, pre, xs, hk, rfl, hpl, hxl, hev, hod, hox⟩ := hrel
    have HG := hide hg
    have HPL := hide hpl
    have HEV := hide hev
    have HOD := hide hod
    have HOX := hide hox
    have HXL := hide hxl
    clear hg hpl hev hod hox hxl
    by_cases hlt : k < n
    · go_wp2_with fail
      go_loopw [28] (fun i wr => w.grownBy wr none ∧ ∃ (j : Nat) (ys : List Int), j ≤ m ∧ i = .int .i64 j ∧ ys.length = m ∧ ys.take j = (colAt cols k).take j ∧ OwnsE wr w.heap.size (.slice (some ⟨w.heap.size, 0, none⟩) n n) (pre ++ List.replicate (n - k) 0) ∧ OwnsE wr w.heap.size (.slice (some ⟨g2, 0, none⟩) m m) ys) (fun i _ => m - (intOf i).toNat)
      case atStart => exact ⟨HG.out, 0, xs, Nat.zero_le _, rfl, HXL.out, rfl, HOD.out, HOX.out⟩
      case round =>
        obtain ⟨hg, j, ys, hj, rfl, hyl, hyt, hod, hox⟩ := hrel
        have HG3 := hide hg
        have HYL := hide hyl
        have HYT := hide hyt
        have HOD3 := hide hod
        have HOX3 := hide hox
        clear hyl hyt hod hox
        by_cases hjl : j < m
        · have hcl := HM.out
          have hj' : j < cols.length := by omega
          have hc1 := (HC.out.more hg).at j (by rw [List.length_map]; exact hj') 0 (by omega)
          rw [List.getElem_map] at hc1
          have HCI := hide (HI.out cols[j] (List.getElem_mem hj'))
          have HCA : Hid ((colAt cols k).getD j 0 = cols[j].2.getD k 0) := by show _ = _; unfold colAt; simp [List.getD, hj']
          obtain ⟨⟨⟨sa, sn, sc⟩, zs⟩, hp⟩ : ∃ p, p = cols[j] := ⟨_, rfl⟩
          rw [← hp] at hc1 HCI HCA
          simp only at HCI HCA
          have hzl := HCI.out.2
          obtain ⟨zb, zo, ezs, hcz⟩ := HCI.out.1.get (k := k) (by omega)
          simp only at ezs
          subst ezs
          have cz := cell_still (hcz k (by omega)) hg
          have snE : sn = n := by
            obtain ⟨a', c', e, -⟩ := HCI.out.1.sl
            simp only [Sl.v, Value.slice.injEq] at e
            omega
          replace snE := snE.symm
          subst snE
          have hc2 : wr.cell? ⟨b, off + j, none⟩ = some (.slice (some ⟨zb, zo, none⟩) n sc) := by simpa [scellS] using hc1
          have hbz := HCI.out.1.wf (zs.getD k 0) (getDm (by omega))
          obtain ⟨p1', p2', p3', p4'⟩ := HOX3.out.put HYL.out hjl (zs.getD k 0) hbz
          have NX := hide p3'
          have GX := hide (grown_drop hg p4' (by have := L1.out; omega))
          have DX := hide (HOD3.out.more p4' (.inr (by have := L1.out; simp [Value.ownBlock]; omega)))
          have TX : Hid ((ys.set j (zs.getD k 0)).take (j + 1) = (colAt cols k).take (j + 1)) := by
            show _ = _
            have cl : (colAt cols k).length = m := by unfold colAt; rw [List.length_map]; exact HM.out
            have yl := HYL.out
            rw [List.take_add_one, List.take_add_one, List.take_set_of_le (Nat.le_refl _), HYT.out, List.getElem?_set_self (by omega), List.getElem?_eq_getElem (by omega), ← HCA.out]
            simp [List.getD, show j < (colAt cols k).length by omega]
          have k0 : (k : Int) < (n : Int) := by omega
          obtain ⟨zk, hzk⟩ : ∃ q, q = zs.getD k 0 := ⟨_, rfl⟩
          obtain ⟨yj, hyj⟩ : ∃ q, q = ys.getD j 0 := ⟨_, rfl⟩
          rw [← hzk] at cz NX GX DX TX
          rw [← hyj] at p1'
          clear hc1 hp hcz hbz p3' p4' hzk hyj hg hzl hcl
          go_wp2
          go_roundw
          case rel => exact ⟨GX.out, j + 1, ys.set j zk, by omega, by go_num, by rw [List.length_set]; exact HYL.out, TX.out, DX.out, NX.out⟩
          case measure => simp [intOf]; omega
        · obtain rfl : j = m := by omega
          have EX : Hid (ys = colAt cols k) := by
            have h := HYT.out
            have cl : (colAt cols k).length = j := by unfold colAt; rw [List.length_map]; exact HM.out
            rw [List.take_of_length_le (by have := HYL.out; omega), List.take_of_length_le (by omega)] at h
            exact h
          have WX := hide (HWC.out wr g2 ys hg HYL.out HOX3.out.ints)
          rw [EX.out] at WX
          clear hg HYT
          go_wp2_with fail
          rw [HCF.out]
          refine WX.out.mono ?_
          rintro e w5 ⟨v, c, rfl, hbp, q, rfl⟩
          have HBP := hide hbp
          clear hbp
          have gq : wr.grownBy (wr.drewN q) none := ⟨rfl, rfl, rfl, Nat.le_refl _, fun k hk hn => rfl⟩
          obtain ⟨w6, hw6⟩ : ∃ w6, w6 = wr.drewN q := ⟨_, rfl⟩
          rw [← hw6] at gq ⊢
          have G6 := hide (grown_trans HG3.out gq)
          have D6 := hide (HOD3.out.more gq (by simp [Value.ownBlock]))
          have X6 := hide (HOX3.out.more gq (by simp [Value.ownBlock]))
          clear hw6 gq
          by_cases hc0 : c = 0
          · have bc : (c != 0) = false := by simp [hc0]
            have hpl := HPL.out
            obtain ⟨p1', p2', p3', p4'⟩ := D6.out.put (by rw [List.length_append, List.length_replicate]; omega) hlt v (HBP.out hc0).1
            have ES : Hid ((pre ++ List.replicate (n - k) 0).set k v = (pre ++ [v]) ++ List.replicate (n - (k + 1)) 0) := by
              show _ = _
              rw [List.set_append_right _ _ (by omega), hpl, Nat.sub_self, show n - k = (n - (k + 1)) + 1 from by omega, List.replicate_succ, List.set_cons_zero, List.append_assoc]
              rfl
            rw [ES.out] at p3'
            have NX := hide p3'
            have GX := hide (grown_drop G6.out p4' (Nat.le_refl _))
            have XX := hide (X6.out.more p4' (.inr (by have := L1.out; simp [Value.ownBlock]; omega)))
            have EV : Hid (∀ j, j < k + 1 → P (colAt cols j) ((pre ++ [v]).getD j 0)) := fun j hj => by
              by_cases e : j < k
              · have := HEV.out j e
                rw [show (pre ++ [v]).getD j 0 = pre.getD j 0 from by rw [List.getD, List.getElem?_append_left (by omega)]; rfl]
                exact this
              · obtain rfl : j = k := by omega
                rw [show (pre ++ [v]).getD j 0 = v from by rw [List.getD, List.getElem?_append_right (by omega), hpl, Nat.sub_self]; rfl]
                exact (HBP.out hc0).2
            have PLL : Hid ((pre ++ [v]).length = k + 1) := by show _ = _; simp [hpl]
            obtain ⟨ov, hov⟩ : ∃ q, q = (pre ++ List.replicate (n - k) (0 : Int)).getD k 0 := ⟨_, rfl⟩
            rw [← hov] at p1'
            have YL := HYL
            clear hc0 p3' p4' hov hpl ES
            go_wp2
            go_roundw
            case rel => exact ⟨GX.out, k + 1, pre ++ [v], ys, by omega, by go_num, PLL.out, YL.out, EV.out, NX.out, XX.out⟩
            case measure => simp [intOf]; omega
          · have bc : (c != 0) = true := by simpa using hc0
            have EV : Hid (c ≠ 0) := hc0
            clear hc0
            go_wp2
            go_ret2
            exact ⟨G6.out, .inl ⟨c, EV.out, rfl⟩⟩
    · obtain rfl : k = n := by omega
      have OD := HOD.out
      rw [Nat.sub_self, List.replicate_zero, List.append_nil] at OD
      have HO := hide OD
      clear OD
      go_wp2
      go_ret2
      exact ⟨HG.out, .inr ⟨⟨some ⟨w.heap.size, 0, none⟩, k, k⟩, pre, rfl, HO.out, HPL.out, fun j hj => by rw [col_at]; exact HEV.out j hj⟩⟩
end Go.Proofs.YteigfipgmghgmaaGreatDoor
