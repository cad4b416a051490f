/- made, begin.Do and elem.Do over whatever workOf answers, told by relations, by the walk (mkElMa.py). -/
import Derived.Test.YteigfipgmghgmaaGreatDoorElEv
import Derived.Test.YteigfipgmghgmaaGreatDoorEDo
namespace Go.Proofs.YteigfipgmghgmaaGreatDoor
open Go.RowKit

/-- How workOf ends: with a closure that makes elements as they should be. -/
def WofQ (P : List Int → Int → Prop) (m : Nat) (w : World) (e : Ending) (w' : World) : Prop := ∃ (fn : Nat) (cap : Array Value), e = .returned (.func (.func fn) #[] cap) ∧ w.grownBy w' none ∧ (∀ (args : Array Value) (wx : World), (callFunc fn args).run Tryz.prog wx = .ok (.enter fn args) wx) ∧ ∀ (wy : World) (B : Nat) (xs : List Int), w'.grownBy wy none → xs.length = m → IsInts wy (.slice (some ⟨B, 0, none⟩) m m) xs → Calls Tryz.prog fn (#[.slice (some ⟨B, 0, none⟩) m m] ++ cap) wy (CloQ P xs wy)

/-- How Do ends: with an error, or with a tensor as it should be. -/
def DoS (w : World) (R0 : R (Int × List Int)) (K : Int → List Int → R (List Int) → Prop) (e : Ending) (w' : World) : Prop := w.grownBy w' none ∧ ((∃ c : Int, c ≠ 0 ∧ e = .returned (.tuple #[.agg #[.int .i64 0, .slice none 0 0, .slice none 0 0], .int .i64 c])) ∨ ∃ (t : Ten) (l zs : List Int), R0 = .ok (t.ty, l) ∧ e = .returned (.tuple #[tval t, .int .i64 0]) ∧ K t.ty l (.ok zs) ∧ Owns w' w.heap.size t.dv.v l ∧ OwnsE w' w.heap.size t.tv.v zs)

set_option maxRecDepth 100000 in
set_option maxHeartbeats 8000000 in
theorem made_any (n : Nod) (u : Sl) (ps : List (Ten × Tq)) (nam0 : ByteArray) (vty : Int) (dv : Sl) (l : List Int) (P : List Int → Int → Prop) (N : Nat) (w : World) (hv : TensIn w u.v ps) (hp0 : 0 < ps.length) (hp1 : ps.length ≤ 1000) (hd : IsInts w dv.v l) (hN : N ≤ 65536) (hL : ∀ p ∈ ps, asOk l p = true → (colP l p).length = N)
    (WO : ∀ wx, w.grownBy wx none → Calls Tryz.prog 21 #[nval n, .slice u.a u.n u.c, .agg #[.string nam0, .int .i64 vty, .slice dv.a dv.n dv.c]] wx (WofQ P ps.length wx)) :
    Calls Tryz.prog 14 #[nval n, .slice u.a u.n u.c, .agg #[.string nam0, .int .i64 vty, .slice dv.a dv.n dv.c]] w (EvS w P (ps.map (colP l)) N) := by
  obtain ⟨i0, hi, hz0, hz1, hz2⟩ := info_parts infoColE
  obtain ⟨xa, xc, e1, p1, p2, p3⟩ := hv.vals.form
  rw [List.length_map] at e1 p1 p3
  obtain ⟨ua, un, uc⟩ := u
  simp only [Sl.v, Value.slice.injEq] at e1
  obtain ⟨rfl, rfl, rfl⟩ := e1
  have HV := hide hv
  have HD := hide hd
  have HLN := hide hL
  have HWO := hide WO
  clear hv hd hL WO
  obtain ⟨w0, hw0⟩ : ∃ w0, w0 = (w.alloc (.cells #[.string n.op, .string n.name, .slice n.iv.a n.iv.n n.iv.c, .string n.out, .slice n.av.a n.av.n n.av.c] 25)).alloc (.cells #[.string nam0, .int .i64 vty, .slice dv.a dv.n dv.c] 53) := ⟨_, rfl⟩
  have g0 : Hid (w.grownBy w0 none) := by show w.grownBy w0 none; rw [hw0]; exact grown_trans (grown_new _ _) (grown_new _ _)
  have hbx := two_boxes w (.cells #[.string n.op, .string n.name, .slice n.iv.a n.iv.n n.iv.c, .string n.out, .slice n.av.a n.av.n n.av.c] 25) (.cells #[.string nam0, .int .i64 vty, .slice dv.a dv.n dv.c] 53)
  rw [← hw0] at hbx
  have BX : Hid (∀ wx, w0.grownBy wx none → wx.heap[w.heap.size + 1]? = some (.cells #[.string nam0, .int .i64 vty, .slice dv.a dv.n dv.c] 53 (0, 0))) := fun wx hg => box_kept hbx.2 hg
  have WO := hide (HWO.out w0 g0.out)
  clear hbx HWO
  obtain ⟨dva, dvn, dvc⟩ := dv
  obtain ⟨op, nam, ⟨ia, il, ic⟩, out, ⟨ao, al, cap⟩⟩ := n
  unfold nval at WO ⊢
  simp only at WO BX hw0 ⊢
  go_enter Tryz.func14, Tryz.ntmps14
  go_wp2_with fail
  rw [← hw0]
  clear hw0
  refine WO.out.mono ?_
  rintro e w1 ⟨fn, cap, rfl, hg1, hcf, hcl0⟩
  have HCF := hide hcf
  have G1 := hide hg1
  have HCLO := hide hcl0
  clear hg1 hcl0 hcf
  have hbo : ∀ wx, (binOp .eql 58 (.func (.func fn) #[] cap) .nilFunc).run Tryz.prog wx = .ok (.bool false) wx := fun wx => by rfl
  go_wp2_with fail
  go_loopw [9, 22] (fun v i wr => w1.grownBy wr none ∧ ∃ (k : Nat) (va : Option Addr) (vc : Nat) (cols : List (Sl × List Int)), k ≤ ps.length ∧ i = .int .i64 k ∧ v = .slice va k vc ∧ cols.length = k ∧ cols.map (·.2) = (ps.take k).map (colP l) ∧ (ps.take k).all (asOk l) = true ∧ OwnsL 30 1 scellS wr w1.heap.size (.slice va k vc) (cols.map (·.1)) ∧ ∀ c ∈ cols, OwnsE wr w1.heap.size c.1.v c.2) (fun _ i _ => ps.length - (intOf i).toNat)
  case atStart => exact ⟨grown_refl _, 0, none, 0, [], Nat.zero_le _, rfl, rfl, rfl, rfl, rfl, OwnsL.nil .., fun c hc => by simp at hc⟩
  case round =>
    obtain ⟨hg, k, va, vc, cols, hk, rfl, rfl, hcl, hcm, hall, hown, hin⟩ := hrel
    have HG := hide hg
    have HO := hide hown
    have HAL := hide hall
    have HCL := hide hcl
    have HCM := hide hcm
    have HIN := hide hin
    clear hown hall hcl hcm hin
    have gw := hide (grown_trans g0.out (grown_trans G1.out hg))
    by_cases hlt : k < ps.length
    · obtain ⟨b, off, rfl⟩ := HV.out.vals.addr (k := k) (by rw [List.length_map]; exact hlt)
      obtain ⟨a0, a1, a2⟩ := (HV.out.more gw.out).at k hlt
      have HH := hide (HV.out.has ps[k] (List.getElem_mem hlt))
      have HT : Hid ((ps.take (k + 1)).all (asOk l) = ((ps.take k).all (asOk l) && asOk l ps[k])) := by
        show _ = _
        rw [List.take_add_one, List.all_append, List.getElem?_eq_getElem hlt]
        simp
      have HM : Hid ((ps.take (k + 1)).map (colP l) = (ps.take k).map (colP l) ++ [colP l ps[k]]) := by
        show _ = _
        rw [List.take_add_one, List.map_append, List.getElem?_eq_getElem hlt]
        rfl
      obtain ⟨p, hp⟩ : ∃ p, p = ps[k] := ⟨_, rfl⟩
      rw [← hp] at a0 a1 a2 HH HT HM
      obtain ⟨⟨ty, ⟨da, dn, dc⟩, ⟨ta, tn, tc⟩⟩, ⟨ds, ts⟩⟩ := p
      simp only at a0 a1 a2 HH
      obtain ⟨w2, hw2⟩ : ∃ w2, w2 = wr.alloc (.cells #[.int .i64 ty, .slice da dn dc, .slice ta tn tc] 32) := ⟨_, rfl⟩
      have g2 : Hid (wr.grownBy w2 none) := by show wr.grownBy w2 none; rw [hw2]; exact grown_new _ _
      have B2 := BX.out w2 (grown_trans (grown_trans G1.out hg) g2.out)
      have v2 : w2.cell? ⟨w.heap.size + 1, 2, none⟩ = some (.slice dva dvn dvc) := (cell_of_row _ _ 2 _ _ (0, 0) B2).trans rfl
      rw [hw2] at v2
      have AS := hide (as_any ⟨ty, ⟨da, dn, dc⟩, ⟨ta, tn, tc⟩⟩ ds ts l ⟨dva, dvn, dvc⟩ w2 ((HH.out.1.more gw.out).more g2.out) ((HH.out.2.more gw.out).more g2.out) ((HD.out.more gw.out).more g2.out))
      unfold tval at AS
      simp only at AS
      clear B2 hp hg
      go_wp2_with fail
      rw [← hw2]
      clear hw2 a0 a1 a2 v2
      refine AS.out.mono ?_
      rintro e w3 ⟨⟨sa, sn, sc⟩, rfl, ho3, hg3⟩
      have G3 := hide (grown_trans (grown_trans HG.out g2.out) hg3)
      have I3 := hide (OwnsE.ints (w := w3) (base := w2.heap.size) ho3)
      have hsz : w1.heap.size ≤ w3.heap.size := G3.out.size
      by_cases hok : asE ds ts l = 0
      · have bo : (asE ds ts l != 0) = false := by simp [hok]
        have HOK := hide hok
        have KL : Hid ((cols.map (·.1)).length = k) := by show _ = _; rw [List.length_map]; exact HCL.out
        have OW : Hid (∀ o, (w3.alloc o).ownsRow w1.heap.size 30 1 (.slice va k vc) k ((cols.map (·.1)).flatMap scellS)) := fun o => owns_row_atE ((HO.out.more (grown_trans g2.out hg3)).more (grown_new _ _)) KL.out
        have GI := hide (grown_trans g2.out hg3)
        have HS : Hid (∀ c ∈ cols ++ [((⟨sa, sn, sc⟩ : Sl), asL ds ts l)], OwnsE (w3.alloc (.cells #[.slice sa sn sc] 30)) w1.heap.size c.1.v c.2) := fun c hc => by
          rcases List.mem_append.1 hc with hc | hc
          · exact (HIN.out c hc).more (grown_trans GI.out (grown_new _ _)) (by cases c.1.v.ownBlock <;> simp)
          · obtain rfl := List.mem_singleton.1 hc
            exact OwnsE.more (w := w3) ⟨ownsRow_base ho3.1 (by have := HG.out.size; have := g2.out.size; omega), ho3.2⟩ (grown_new _ _) (by cases (Sl.v ⟨sa, sn, sc⟩).ownBlock <;> simp)
        clear hok ho3 hg3 AS
        go_wp2_with (at_builtin; refine wpList_append_lies _ rfl (.tmp 36) (.tmp 38) 60 rfl w1.heap.size 30 i0 (.slice none 0 0) 1 24 Tryz.underlying60 hi hz0 hz1 hz2 rfl (by decide) (.slice va k vc) k ((cols.map (·.1)).flatMap scellS) rfl (by exact OW.out _) ⟨w3.heap.size, 0, none⟩ 1 1 (scellS ⟨sa, sn, sc⟩) rfl rfl (by exact World.news_of_block (by have h := heap_alloc_new w3 (.cells #[.slice sa sn sc] 30); simpa using h)) (scellS_one _) (by omega) (by simp only [maxLen]; omega) (by omega) (by simp; omega) (w3.heap.size + 1) (by simp) ?_; intro gg cap8 w8 hown8 hgrow hat hlt8)
        have ST : Hid (w1.grownBy w8 none ∧ OwnsL 30 1 scellS w8 w1.heap.size (.slice (some ⟨gg, 0, none⟩) (k + 1) cap8) ((cols ++ [((⟨sa, sn, sc⟩ : Sl), asL ds ts l)]).map (fun c => c.1)) ∧ (ps.take (k + 1)).all (asOk l) = true ∧ (cols ++ [((⟨sa, sn, sc⟩ : Sl), asL ds ts l)]).map (fun c => c.2) = (ps.take (k + 1)).map (colP l) ∧ ∀ c ∈ cols ++ [((⟨sa, sn, sc⟩ : Sl), asL ds ts l)], OwnsE w8 w1.heap.size c.1.v c.2) := ⟨grown_trans_row (grown_trans G3.out (grown_new _ _)) hgrow (fun r e => (World.ownsRow.lt HO.out r e).1), by rw [List.map_append]; exact owns_at_rowE KL.out hown8, by rw [HT.out, HAL.out]; simp [asOk, HOK.out], by rw [HM.out, List.map_append, HCM.out]; rfl, fun c hc => by
          have h9 := HS.out c hc
          exact ⟨h9.1.kept hgrow (apart_te h9.1 (OW.out _) (by decide)), h9.2⟩⟩
        clear hown8 hgrow hat hlt8
        go_wp2_with fail
        go_roundw
        case rel => exact ⟨ST.out.1, k + 1, _, _, _, by omega, by go_num, rfl, by rw [List.length_append, HCL.out]; rfl, ST.out.2.2.2.1, ST.out.2.2.1, ST.out.2.1, ST.out.2.2.2.2⟩
        case measure => simp [intOf]; omega
      · have bo : (asE ds ts l != 0) = true := by simpa using hok
        have E : Hid (asE ds ts l ≠ 0) := hok
        have GF := hide (grown_trans (grown_trans g0.out G1.out) G3.out)
        clear hok ho3 hg3 AS
        go_wp2
        go_ret2
        exact ⟨GF.out, .inl ⟨_, E.out, rfl⟩⟩
    · obtain rfl : k = ps.length := by omega
      have HOF := HO.out
      have EQ : Hid (cols.map (·.2) = ps.map (colP l)) := by
        show _ = _
        have h2 := HCM.out
        rw [List.take_of_length_le (Nat.le_refl _)] at h2
        exact h2
      have CI : ∀ c ∈ cols, IsInts wr c.1.v c.2 ∧ c.2.length = N := fun c hc => ⟨(HIN.out c hc).ints, by
        have h1 := HAL.out
        have h2 := HCM.out
        rw [List.take_of_length_le (Nat.le_refl _)] at h1 h2
        have h3 : c.2 ∈ cols.map (·.2) := List.mem_map.2 ⟨c, hc, rfl⟩
        rw [h2] at h3
        obtain ⟨p, hp, e⟩ := List.mem_map.1 h3
        rw [← e]
        exact HLN.out p hp (List.all_eq_true.1 h1 p hp)⟩
      have EV := hide (every_any ⟨va, ps.length, vc⟩ cols N ps.length P fn cap wr (HOF.isL (bytes := 24) scellS_len (by rw [List.length_map, HCL.out]; omega)) CI HCL.out hp0 hp1 hN HCF.out (fun wx B xs hgx hxl hxi => HCLO.out wx B xs (grown_trans hg hgx) hxl hxi))
      rw [EQ.out] at EV
      simp only at EV
      clear HOF CI hg
      go_wp2_with fail
      refine EV.out.mono ?_
      rintro e w5 ⟨hg5, hq⟩
      have G5 := hide (grown_trans gw.out hg5)
      have Z5 : Hid (w.heap.size ≤ wr.heap.size) := gw.out.size
      clear hg5 EV
      rcases hq with ⟨c, hc0, rfl⟩ | ⟨⟨sa, sn, sc⟩, zs, rfl, ho, hzl, hzp⟩
      · have HC0 := hide hc0
        clear hc0
        go_wp2
        go_ret2
        exact ⟨G5.out, .inl ⟨c, HC0.out, rfl⟩⟩
      · have HO5 : Hid (OwnsE w5 w.heap.size (Sl.v ⟨sa, sn, sc⟩) zs) := ⟨ownsRow_base ho.1 Z5.out, ho.2⟩
        have HZ := hide hzl
        have HP := hide hzp
        clear ho hzl hzp
        go_wp2
        go_ret2
        exact ⟨G5.out, .inr ⟨⟨sa, sn, sc⟩, zs, rfl, HO5.out, HZ.out, HP.out⟩⟩

set_option maxRecDepth 100000 in
set_option maxHeartbeats 8000000 in
theorem bdo_rel (n : Nod) (u : Sl) (R0 : R (Int × List Int)) (K : Int → List Int → R (List Int) → Prop) (w : World) (h1 : ∀ c, R0 = .error c → c ≠ 0) (h2 : ∀ ty l c, K ty l (.error c) → c ≠ 0)
    (NC : ∀ wx, w.grownBy wx none → Calls Tryz.prog 20 #[nval n, .slice u.a u.n u.c] wx (AttQ n.out wx R0))
    (MC : ∀ (wx : World) (ty : Int) (dv : Sl) (l : List Int), w.grownBy wx none → R0 = .ok (ty, l) → IsInts wx dv.v l → Calls Tryz.prog 14 #[nval n, .slice u.a u.n u.c, .agg #[.string n.out, .int .i64 ty, .slice dv.a dv.n dv.c]] wx fun e w' => ∃ r, K ty l r ∧ EvQ wx r e w') :
    Calls Tryz.prog 13 #[nval n, .slice u.a u.n u.c, .func (.func 14) #[] #[]] w (DoS w R0 K) := by
  have H1 := hide h1
  have H2 := hide h2
  have HMC := hide MC
  clear h1 h2 MC
  obtain ⟨w0, hw0⟩ : ∃ w0, w0 = (w.alloc (.cells #[.string n.op, .string n.name, .slice n.iv.a n.iv.n n.iv.c, .string n.out, .slice n.av.a n.av.n n.av.c] 25)).alloc (.cells #[.int .i64 0, .slice none 0 0, .slice none 0 0] 32) := ⟨_, rfl⟩
  have g0 : Hid (w.grownBy w0 none) := by show w.grownBy w0 none; rw [hw0]; exact grown_trans (grown_new _ _) (grown_new _ _)
  have hbx := two_boxes w (.cells #[.string n.op, .string n.name, .slice n.iv.a n.iv.n n.iv.c, .string n.out, .slice n.av.a n.av.n n.av.c] 25) (.cells #[.int .i64 0, .slice none 0 0, .slice none 0 0] 32)
  rw [← hw0] at hbx
  have BN : Hid (∀ wx, w0.grownBy wx none → wx.heap[w.heap.size]? = some (.cells #[.string n.op, .string n.name, .slice n.iv.a n.iv.n n.iv.c, .string n.out, .slice n.av.a n.av.n n.av.c] 25 (0, 0))) := fun wx hg => box_kept hbx.1 hg
  have BX : Hid (∀ wx, w0.grownBy wx none → wx.heap[w.heap.size + 1]? = some (.cells #[.int .i64 0, .slice none 0 0, .slice none 0 0] 32 (0, 0))) := fun wx hg => box_kept hbx.2 hg
  have Z0 : Hid (w.heap.size + 1 < w0.heap.size) := (Array.getElem?_eq_some_iff.1 hbx.2).1
  have N1 := hide (NC w0 g0.out)
  clear hbx NC
  obtain ⟨op, nam, ⟨ia, il, ic⟩, out, ⟨ao, al, cap⟩⟩ := n
  obtain ⟨ua, un, uc⟩ := u
  unfold nval at HMC N1 ⊢
  simp only at HMC N1 BN hw0 ⊢
  go_enter Tryz.func13, Tryz.ntmps13
  go_wp2_with fail
  rw [← hw0]
  clear hw0
  refine N1.out.mono ?_
  rintro e w1 ⟨hg1, hq⟩
  have G1 := hide hg1
  cases R0 with
  | error c =>
    obtain rfl := hq
    have hc := H1.out c rfl
    have bc : (c != 0) = true := by simpa using hc
    obtain ⟨w2, hw2⟩ : ∃ w2, w2 = w1.alloc (.cells #[.string ⟨#[]⟩, .int .i64 0, .slice none 0 0] 53) := ⟨_, rfl⟩
    have g2 : w1.grownBy w2 none := by rw [hw2]; exact grown_new _ _
    have B1 := BX.out w2 (grown_trans hg1 g2)
    obtain ⟨f0, f1, f2⟩ := ten_frozen B1
    have c0 : w2.cell? ⟨w.heap.size + 1, 0, none⟩ = some (.int .i64 0) := (cell_of_row _ _ 0 _ _ (0, 0) B1).trans rfl
    have c1 : w2.cell? ⟨w.heap.size + 1, 1, none⟩ = some (.slice none 0 0) := (cell_of_row _ _ 1 _ _ (0, 0) B1).trans rfl
    have c2 : w2.cell? ⟨w.heap.size + 1, 2, none⟩ = some (.slice none 0 0) := (cell_of_row _ _ 2 _ _ (0, 0) B1).trans rfl
    obtain ⟨hX, gX⟩ := store3t (.int .i64 0) (.slice none 0 0) (.slice none 0 0) B1
    have HX := hide hX
    have GX := hide (grown_drop (grown_trans g0.out (grown_trans hg1 g2)) gX (by omega))
    rw [hw2] at f0 f1 f2 c0 c1 c2 HX GX
    clear hX gX B1 hc hg1 g2 hw2
    go_wp2
    refine bodyPost_ret (ret_ten2 rfl _ _ (w.heap.size + 1) rfl HX.out) rfl ?_
    exact ⟨GX.out, .inl ⟨c, H1.out c rfl, rfl⟩⟩
  | ok rr =>
    obtain ⟨ty, l⟩ := rr
    obtain ⟨⟨s1, s2, s3⟩, rfl, ho⟩ := hq
    obtain ⟨w2, hw2⟩ : ∃ w2, w2 = w1.alloc (.cells #[.string out, .int .i64 ty, .slice s1 s2 s3] 53) := ⟨_, rfl⟩
    have g2 : w1.grownBy w2 none := by rw [hw2]; exact grown_new _ _
    have hB2 := heap_alloc_new w1 (.cells #[.string out, .int .i64 ty, .slice s1 s2 s3] 53)
    rw [← hw2] at hB2
    have BV : Hid (∀ wx, w2.grownBy wx none → wx.heap[w1.heap.size]? = some (.cells #[.string out, .int .i64 ty, .slice s1 s2 s3] 53 (0, 0))) := fun wx hg => box_kept hB2 hg
    have HO := hide ho
    obtain ⟨n0, n1, n2, n3, n4⟩ := nod_cells (n := ⟨op, nam, ⟨ia, il, ic⟩, out, ⟨ao, al, cap⟩⟩) (BN.out w2 (grown_trans hg1 g2))
    have M1 := hide (HMC.out w2 ty ⟨s1, s2, s3⟩ l (grown_trans g0.out (grown_trans hg1 g2)) rfl (ho.ints.more g2))
    have G2 := hide (grown_trans hg1 g2)
    have G12 := hide g2
    simp only at n0 n1 n2 n3 n4 M1
    rw [hw2] at n0 n1 n2 n3 n4
    clear ho hg1 g2 hB2
    go_wp2_with fail
    rw [← hw2]
    clear hw2 n0 n1 n2 n3 n4
    refine M1.out.mono ?_
    rintro e w3 ⟨mr, hK, hg3, hq⟩
    have HK := hide hK
    have B3 := BX.out w3 (grown_trans G2.out hg3)
    have G3 := hide (grown_trans g0.out (grown_trans G2.out hg3))
    obtain ⟨f0, f1, f2⟩ := ten_frozen B3
    have c0 : w3.cell? ⟨w.heap.size + 1, 0, none⟩ = some (.int .i64 0) := (cell_of_row _ _ 0 _ _ (0, 0) B3).trans rfl
    have c1 : w3.cell? ⟨w.heap.size + 1, 1, none⟩ = some (.slice none 0 0) := (cell_of_row _ _ 1 _ _ (0, 0) B3).trans rfl
    have c2 : w3.cell? ⟨w.heap.size + 1, 2, none⟩ = some (.slice none 0 0) := (cell_of_row _ _ 2 _ _ (0, 0) B3).trans rfl
    clear hK
    cases mr with
    | error c =>
      obtain rfl := hq
      have hc := H2.out ty l c HK.out
      have HC := hide hc
      have bc : (c != 0) = true := by simpa using hc
      obtain ⟨hX, gX⟩ := store3t (.int .i64 0) (.slice none 0 0) (.slice none 0 0) B3
      have HX := hide hX
      have GX := hide (grown_drop G3.out gX (by omega))
      clear hX gX B3 hc hg3
      go_wp2
      refine bodyPost_ret (ret_ten2 rfl _ _ (w.heap.size + 1) rfl HX.out) rfl ?_
      exact ⟨GX.out, .inl ⟨c, HC.out, rfl⟩⟩
    | ok zs =>
      obtain ⟨⟨t1, t2, t3⟩, rfl, ht⟩ := hq
      have bv := BV.out w3 hg3
      have v1 : w3.cell? ⟨w1.heap.size, 1, none⟩ = some (.int .i64 ty) := (cell_of_row _ _ 1 _ _ (0, 0) bv).trans rfl
      have v2 : w3.cell? ⟨w1.heap.size, 2, none⟩ = some (.slice s1 s2 s3) := (cell_of_row _ _ 2 _ _ (0, 0) bv).trans rfl
      obtain ⟨hX, gX⟩ := store3t (.int .i64 ty) (.slice s1 s2 s3) (.slice t1 t2 t3) B3
      have HX := hide hX
      have GX := hide (grown_drop G3.out gX (by omega))
      have z0 := Z0.out
      have z1 := g0.out.size
      have z2 := G2.out.size
      have OD := hide (((HO.out.more (grown_trans G12.out hg3) (by cases (Sl.v ⟨s1, s2, s3⟩).ownBlock <;> simp)).base_le (b' := w0.heap.size) (Nat.le_refl _)).more gX (row_lt HO.out.1 (by omega)))
      have OT : Hid (OwnsE _ w2.heap.size (Sl.v ⟨t1, t2, t3⟩) zs) := ht.more gX (row_lt ht.1 (by omega))
      clear hX gX B3 hg3 bv ht z0 z1 z2
      go_wp2
      refine bodyPost_ret (ret_ten2 rfl _ _ (w.heap.size + 1) rfl HX.out) rfl ?_
      exact ⟨GX.out, .inr ⟨⟨ty, ⟨s1, s2, s3⟩, ⟨t1, t2, t3⟩⟩, l, zs, rfl, rfl, HK.out, OD.out.base_le (by have := g0.out.size; omega), ⟨ownsRow_base OT.out.1 (by have := g0.out.size; have := G2.out.size; omega), OT.out.2⟩⟩⟩

set_option maxRecDepth 100000 in
set_option maxHeartbeats 8000000 in
theorem edo_rel (n : Nod) (u : Sl) (R0 : R (Int × List Int)) (K : Int → List Int → R (List Int) → Prop) (w : World) (BC : ∀ wx, w.grownBy wx none → Calls Tryz.prog 13 #[nval n, .slice u.a u.n u.c, .func (.func 14) #[] #[]] wx (DoS wx R0 K)) :
    Calls Tryz.prog 8 #[nval n, .slice u.a u.n u.c] w (DoS w R0 K) := by
  obtain ⟨w0, hw0⟩ : ∃ w0, w0 = (w.alloc (.cells #[.string n.op, .string n.name, .slice n.iv.a n.iv.n n.iv.c, .string n.out, .slice n.av.a n.av.n n.av.c] 25)).alloc (.cells #[.int .i64 0, .slice none 0 0, .slice none 0 0] 32) := ⟨_, rfl⟩
  have g0 : Hid (w.grownBy w0 none) := by show w.grownBy w0 none; rw [hw0]; exact grown_trans (grown_new _ _) (grown_new _ _)
  have hbx := two_boxes w (.cells #[.string n.op, .string n.name, .slice n.iv.a n.iv.n n.iv.c, .string n.out, .slice n.av.a n.av.n n.av.c] 25) (.cells #[.int .i64 0, .slice none 0 0, .slice none 0 0] 32)
  rw [← hw0] at hbx
  have BX : Hid (∀ wx, w0.grownBy wx none → wx.heap[w.heap.size + 1]? = some (.cells #[.int .i64 0, .slice none 0 0, .slice none 0 0] 32 (0, 0))) := fun wx hg => box_kept hbx.2 hg
  have Z0 : Hid (w.heap.size + 1 < w0.heap.size) := (Array.getElem?_eq_some_iff.1 hbx.2).1
  have N1 := hide (BC w0 g0.out)
  clear hbx BC
  obtain ⟨op, nam, ⟨ia, il, ic⟩, out, ⟨ao, al, cap⟩⟩ := n
  obtain ⟨ua, un, uc⟩ := u
  unfold nval at N1 ⊢
  simp only at N1 hw0 ⊢
  go_enter Tryz.func8, Tryz.ntmps8
  go_wp2_with fail
  rw [← hw0]
  clear hw0
  refine N1.out.mono ?_
  rintro e w3 ⟨hg3, hq⟩
  have B3 := BX.out w3 hg3
  have G3 := hide (grown_trans g0.out hg3)
  obtain ⟨f0, f1, f2⟩ := ten_frozen B3
  have c0 : w3.cell? ⟨w.heap.size + 1, 0, none⟩ = some (.int .i64 0) := (cell_of_row _ _ 0 _ _ (0, 0) B3).trans rfl
  have c1 : w3.cell? ⟨w.heap.size + 1, 1, none⟩ = some (.slice none 0 0) := (cell_of_row _ _ 1 _ _ (0, 0) B3).trans rfl
  have c2 : w3.cell? ⟨w.heap.size + 1, 2, none⟩ = some (.slice none 0 0) := (cell_of_row _ _ 2 _ _ (0, 0) B3).trans rfl
  rcases hq with ⟨c, hc0, rfl⟩ | ⟨⟨ty', ⟨s1, s2, s3⟩, ⟨t1, t2, t3⟩⟩, l, zs, hr, rfl, hK, hd, ht⟩
  · have HC := hide hc0
    obtain ⟨hX, gX⟩ := store3t (.int .i64 0) (.slice none 0 0) (.slice none 0 0) B3
    have HX := hide hX
    have GX := hide (grown_drop G3.out gX (by omega))
    clear hX gX B3 hg3 hc0
    go_wp2
    refine bodyPost_ret (ret_ten2 rfl _ _ (w.heap.size + 1) rfl HX.out) rfl ?_
    exact ⟨GX.out, .inl ⟨c, HC.out, rfl⟩⟩
  · simp only at hr hK hd ht
    have HRR := hide hr
    have HK := hide hK
    obtain ⟨hX, gX⟩ := store3t (.int .i64 ty') (.slice s1 s2 s3) (.slice t1 t2 t3) B3
    have HX := hide hX
    have GX := hide (grown_drop G3.out gX (by omega))
    have OD := hide (hd.more gX (row_lt hd.1 Z0.out))
    have OT := hide (ht.more gX (row_lt ht.1 Z0.out))
    clear hX gX B3 hg3 hd ht hr hK
    unfold tval
    go_wp2
    refine bodyPost_ret (ret_ten2 rfl _ _ (w.heap.size + 1) rfl HX.out) rfl ?_
    exact ⟨GX.out, .inr ⟨⟨ty', ⟨s1, s2, s3⟩, ⟨t1, t2, t3⟩⟩, l, zs, HRR.out, rfl, HK.out, OD.out.base_le (by have := g0.out.size; omega), ⟨ownsRow_base OT.out.1 (by have := g0.out.size; omega), OT.out.2⟩⟩⟩
end Go.Proofs.YteigfipgmghgmaaGreatDoor
