/- Joined dims (Concat), by the walk. -/
import Derived.Test.YteigfipgmghgmaaGreatDoorIWhere
namespace Go.Proofs.YteigfipgmghgmaaGreatDoor
open Go.RowKit

theorem joinL_step {axis : Nat} {ys : List (List Int)} {k : Nat} (hk : k < ys.length) (dims : List Int) : joinL axis (ys.drop k) dims = (mustP (decide (ys[k].length = dims.length))).bind (fun _ => (mustP (likeP dims axis ys[k])).bind (fun _ => joinL axis (ys.drop (k + 1)) (dims.set axis (dims.getD axis 0 + ys[k].getD axis 0)))) := by
  rw [List.drop_eq_getElem_cons hk]
  rfl

theorem getD_mem2 {l : List Int} {k : Nat} (hk : k < l.length) : l.getD k 0 ∈ l := by
  rw [List.getD, List.getElem?_eq_getElem hk]
  exact List.getElem_mem hk

theorem likeP_bad {dims y : List Int} {axis i : Nat} (hi : i < y.length) (ha : i ≠ axis) (h : y.getD i 0 ≠ dims.getD i 0) : likeP dims axis y = false := by
  unfold likeP
  rw [List.all_eq_false]
  exact ⟨i, List.mem_range.2 hi, by rw [Bool.not_eq_true, Bool.or_eq_false_iff]; exact ⟨by simpa using ha, by simpa using h⟩⟩

theorem likeP_good {dims y : List Int} {axis : Nat} (h : ∀ i, i < y.length → i = axis ∨ y.getD i 0 = dims.getD i 0) : likeP dims axis y = true := by
  unfold likeP
  rw [List.all_eq_true]
  intro i hi
  rcases h i (List.mem_range.1 hi) with h1 | h1
  · simp [h1]
  · rw [Bool.or_eq_true]; exact .inr (by simpa using h1)

set_option maxRecDepth 100000 in
set_option maxHeartbeats 4000000 in
theorem joined_any (n : Nod) (A : At) (u : Sl) (p0 : Val × List Int) (rs : List (Val × List Int)) (w : World) (hn : NodeOk w n A) (hv : ValsIn w u.v (p0 :: rs)) (hr : rs.length ≤ 19) (hf : ∀ p ∈ p0 :: rs, Fine p.2) : Calls Tryz.prog 115 #[nval n, .slice u.a u.n u.c] w (Ended w (joinedP A p0.2 (rs.map (·.2))) DimsQ) := by
  obtain ⟨xa, xc, e1, q1, q2, q3⟩ := hv.vals.form
  rw [List.length_map] at e1 q1 q3
  obtain ⟨ua, un, uc⟩ := u
  simp only [Sl.v, Value.slice.injEq] at e1
  obtain ⟨rfl, rfl, rfl⟩ := e1
  have HV := hide hv
  obtain ⟨b, off, rfl⟩ := hv.vals.addr (k := 0) (by simp)
  obtain ⟨-, z0⟩ := hv.at 0 (by simp)
  rw [Nat.zero_mul, Nat.add_zero] at z0
  simp only [List.getElem_cons_zero] at z0
  have HX := hide (hv.dims p0 (by simp))
  have HF := hide hf
  have FX := hide (hf p0 (by simp))
  obtain ⟨⟨pn0, pt0, ⟨d0a, d0n, d0c⟩⟩, x⟩ := p0
  simp only at z0 HX FX ⊢
  have FEW := FX.out.few
  have PB : Hid (∀ z ∈ x, 1 ≤ z ∧ z ≤ 65536) := fun z hz => ⟨FX.out.pos z hz, FX.out.le_each hz⟩
  obtain ⟨m, hm⟩ : ∃ m, m = ((((⟨pn0, pt0, ⟨d0a, d0n, d0c⟩⟩, x) : Val × List Int) :: rs) : List (Val × List Int)).length := ⟨_, rfl⟩
  have hm1 : m = rs.length + 1 := by rw [hm]; simp
  rw [← hm] at q1 q3 ⊢
  have hm0 : 0 < m := by omega
  have hm0' : (0 : Int) < (m : Int) := by omega
  have hm2 : (1 : Int) ≤ (m : Int) := by omega
  have hm3 : 1 ≤ m := by omega
  have huc2 : 1 ≤ uc := by omega
  have hmr : m - 1 = rs.length := by omega
  have Z0 := hide z0
  have RG := hn.int ⟨#[97, 120, 105, 115]⟩ 0 (by omega)
  have hucr : rs.length + 1 ≤ uc := by omega
  clear hv hm z0 hf
  have NK := hide hn
  obtain ⟨op, nam, ⟨ia, il, ic⟩, out, ⟨ao, al, cap⟩⟩ := n
  unfold nval
  simp only
  obtain ⟨w0, hw0⟩ : ∃ w0, w0 = w.alloc (.cells #[.string op, .string nam, .slice ia il ic, .string out, .slice ao al cap] 25) := ⟨_, rfl⟩
  have g0 : Hid (w.grownBy w0 none) := by show w.grownBy w0 none; rw [hw0]; exact grown_new _ _
  have hb0 := heap_alloc_new w (.cells #[.string op, .string nam, .slice ia il ic, .string out, .slice ao al cap] 25)
  rw [← hw0] at hb0
  have BX : Hid (∀ wx, w0.grownBy wx none → wx.heap[w.heap.size]? = some (.cells #[.string op, .string nam, .slice ia il ic, .string out, .slice ao al cap] 25 (0, 0))) := fun wx hg => box_kept hb0 hg
  clear hb0 hn
  have I0 := hide (fun (wx : World) (hg : w.grownBy wx none) => nint_any ⟨op, nam, ⟨ia, il, ic⟩, out, ⟨ao, al, cap⟩⟩ A ⟨#[97, 120, 105, 115]⟩ 0 wx (NK.out.more hg))
  have CL := hide (cloneI_any ⟨d0a, d0n, d0c⟩ x w0 (HX.out.more g0.out))
  unfold nval at I0
  simp only at I0 CL
  obtain ⟨z, hz⟩ : ∃ z, z = A.int ⟨#[97, 120, 105, 115]⟩ 0 := ⟨_, rfl⟩
  rw [← hz] at I0 RG
  have E0 : Hid (joinedP A x (rs.map (·.2)) = (axisP z x.length).bind (fun axis => joinL axis (rs.map (·.2)) x)) := by show _ = _; rw [hz]; rfl
  have AO := hide (fun wx => axisof_any z x.length wx (by omega) RG.1)
  have z0 : (w.alloc (.cells #[.string op, .string nam, .slice ia il ic, .string out, .slice ao al cap] 25)).cell? ⟨b, off + 2, none⟩ = some (.slice d0a d0n d0c) := cell_still Z0.out (grown_new _ _)
  clear hz hm1
  go_enter Tryz.func115, Tryz.ntmps115
  go_wp2_with fail
  rw [← hw0]
  clear hw0 z0
  refine CL.out.mono ?_
  rintro e w1 ⟨⟨qa, qn, qc⟩, rfl, ho, hg1⟩
  have HO := hide ho
  have hqn : qn = x.length := by obtain ⟨a1, c4, e, -⟩ := ho.ints.sl; simp only [Sl.v, Value.slice.injEq] at e; exact e.2.1
  subst hqn
  simp only
  obtain ⟨n0, n1, n2, n3, n4⟩ := nod_cells (n := ⟨op, nam, ⟨ia, il, ic⟩, out, ⟨ao, al, cap⟩⟩) (BX.out w1 (hg1))
  have G1 := hide (grown_trans g0.out hg1)
  clear ho hg1 CL
  go_wp2_with fail
  refine (I0.out w1 G1.out).mono ?_
  rintro e w2 ⟨rfl, hg2⟩
  have G2 := hide (grown_trans G1.out hg2)
  have HO2 := hide (HO.out.new hg2)
  clear hg2 HO I0 n0 n1 n2 n3 n4
  cases hk : axisP z x.length with
  | error c =>
    rw [hk] at AO
    have E : Hid (joinedP A x (rs.map (·.2)) = .error c) := by show _ = _; rw [E0.out, hk]; rfl
    clear hk
    go_wp2_with (first | (go_at_call 117; refine (AO.out _).mono ?_; rintro e w' ⟨hg, rfl⟩) | fail)
    exact ⟨rfl, ended_err E.out (grown_trans G2.out hg)⟩
  | ok axis =>
    rw [hk] at AO
    have E1 : Hid (joinedP A x (rs.map (·.2)) = joinL axis (rs.map (·.2)) x) := by show _ = _; rw [E0.out, hk]; rfl
    have hax : axis < x.length := by
      unfold axisP at hk
      cases ha : axisO z x.length with
      | none => rw [ha] at hk; cases hk
      | some i => rw [ha] at hk; cases hk; exact axisO_lt ha
    clear hk
    obtain ⟨g, gcap, eo, hbg, hgl, hlc, hcm⟩ := HO2.out.shape (by omega)
    simp only [Sl.v, Value.slice.injEq] at eo
    obtain ⟨rfl, -, rfl⟩ := eo
    have HO3 := hide (HO2.out.base_le g0.out.size)
    have hwg : w.heap.size ≤ g := Nat.le_trans g0.out.size hbg
    simp only [Sl.v] at HO3
    clear HO2
    have hax' : (axis : Int) < (x.length : Int) := by omega
    by_cases huc : uc = 1
    · have hrs0 : rs = [] := List.length_eq_zero_iff.1 (by omega)
      subst hrs0
      have E2 : Hid (joinedP A x (([] : List (Val × List Int)).map (·.2)) = .ok x) := E1.out
      subst huc
      go_wp2_with (first | (go_at_call 117; refine (AO.out _).mono ?_; rintro e w' ⟨-, v, rfl, rfl, rfl⟩) | fail)
      refine wp_loop_rounds 1 ?_
      rw [rounds_succ]
      go_wp2
      go_ret
      exact ended_ok E2.out G2.out ⟨⟨_, _, _⟩, rfl, HO3.out.ints⟩
    · go_wp2_with (first | (go_at_call 117; refine (AO.out _).mono ?_; rintro e w' ⟨-, v, rfl, rfl, rfl⟩) | fail)
      clear AO
      go_loopw [24] (fun i wr => ∃ (k : Nat) (D : List Int), k ≤ rs.length ∧ i = .int .i64 k ∧ Owns wr w.heap.size (.slice (some ⟨g, 0, none⟩) x.length qc) D ∧ D.length = x.length ∧ joinL axis ((rs.map (·.2)).drop k) D = joinL axis (rs.map (·.2)) x ∧ (∀ z ∈ D, 0 ≤ z ∧ z ≤ 65536 + 65536 * k) ∧ w.grownBy wr none) (fun i _ => rs.length - (intOf i).toNat)
      case atStart => exact ⟨0, x, Nat.zero_le _, rfl, HO3.out, rfl, by rw [List.drop_zero], fun z hz => by have := PB.out z hz; omega, G2.out⟩
      case round =>
        obtain ⟨k, D, hk, rfl, ho, hD, hst, hbd, hg⟩ := hrel
        have HG := hide hg
        have HO4 := hide ho
        by_cases hkl : k < rs.length
        · obtain ⟨y0, y1, y2⟩ := (HV.out.more hg).vals.val (k + 1) (by rw [List.length_map]; simp; omega)
          have HY := hide (HV.out.dims (rs[k]) (List.mem_cons_of_mem _ (List.getElem_mem hkl)))
          have FY := hide (HF.out (rs[k]) (List.mem_cons_of_mem _ (List.getElem_mem hkl)))
          simp only [List.map_cons, List.getElem_cons_succ, List.getElem_map] at y0 y1 y2
          have ea : off + (k + 1) * 3 = off + 3 + k * 3 := by omega
          rw [ea] at y0 y1 y2
          rw [joinL_step (by rw [List.length_map]; exact hkl)] at hst
          simp only [List.getElem_map] at hst
          obtain ⟨p, hp⟩ : ∃ p, p = rs[k] := ⟨_, rfl⟩
          rw [← hp] at y0 y1 y2 HY FY hst
          obtain ⟨⟨vn, vt, ⟨da, dn, dc⟩⟩, y⟩ := p
          simp only at y0 y1 y2 HY FY hst
          obtain ⟨yx, ycc, ey, f1, f2, f3⟩ := HY.out.sl
          simp only [Sl.v, Value.slice.injEq] at ey
          obtain ⟨rfl, rfl, rfl⟩ := ey
          have YF := FY.out.few
          obtain ⟨w3, hw3⟩ : ∃ w3, w3 = wr.alloc (.cells #[.string vn, .int .i64 vt, .slice da y.length dc] 53) := ⟨_, rfl⟩
          have g3 : Hid (w.grownBy w3 none) := by show w.grownBy w3 none; rw [hw3]; exact grown_trans hg (grown_new _ _)
          have hb3 := heap_alloc_new wr (.cells #[.string vn, .int .i64 vt, .slice da y.length dc] 53)
          rw [← hw3] at hb3
          have v2 : w3.cell? ⟨wr.heap.size, 2, none⟩ = some (.slice da y.length dc) := (cell_of_row _ _ 2 _ _ (0, 0) hb3).trans rfl
          have HO5 : Hid (Owns w3 w.heap.size (.slice (some ⟨g, 0, none⟩) x.length qc) D) := by show Owns _ _ _ _; rw [hw3]; exact ho.new (grown_new _ _)
          have HST := hide hst
          have HBD := hide hbd
          have HDD := hide hD
          clear hb3 ea hp ho hg hst hbd hD
          go_wp2_with fail
          rw [← hw3]
          clear hw3 y0 y1 y2
          by_cases hyl : y.length = x.length
          · have byl : ((y.length : Int) == (x.length : Int)) = true := by simp [hyl]
            have HYL := hide hyl
            have HST2 : Hid ((mustP (likeP D axis y)).bind (fun _ => joinL axis ((rs.map (·.2)).drop (k + 1)) (D.set axis (D.getD axis 0 + y.getD axis 0))) = joinL axis (rs.map (·.2)) x) := by show _ = _; rw [← HST.out]; simp [mustP, hyl, HDD.out]; rfl
            clear hyl HST
            go_wp2_with (first | (go_at_call 71; refine (must_yes _).mono ?_; rintro e w' ⟨rfl, rfl⟩) | fail)
            go_loopw [38] (fun i wx => w3 = wx ∧ ∃ t : Nat, t ≤ y.length ∧ i = .int .i64 t ∧ ∀ i, i < t → i = axis ∨ y.getD i 0 = D.getD i 0) (fun i _ => y.length - (intOf i).toNat)
            case atStart => exact ⟨rfl, 0, Nat.zero_le _, rfl, fun i h => absurd h (by omega)⟩
            case round =>
              obtain ⟨hw, t, ht, rfl, hall⟩ := hrel
              subst hw
              have HA := hide hall
              have HO6 : Hid (Owns w3 w.heap.size (.slice (some ⟨g, 0, none⟩) D.length qc) D) := by show Owns _ _ _ _; rw [HDD.out]; exact HO5.out
              clear hall byl
              by_cases htl : t < y.length
              · obtain ⟨yb, yo, rfl, hcy⟩ := HY.out.get htl
                have cy := cell_still (hcy t htl) g3.out
                have htx : t < x.length := by have := HYL.out; omega
                have htx' : (t : Int) < (x.length : Int) := by omega
                obtain ⟨cd, fd⟩ := HO6.out.cells (k := t) (by rw [HDD.out]; exact htx)
                obtain ⟨P, hP⟩ : ∃ P, P = y.getD t 0 := ⟨_, rfl⟩
                obtain ⟨Q, hQ⟩ : ∃ Q, Q = D.getD t 0 := ⟨_, rfl⟩
                rw [← hP] at cy
                rw [← hQ] at cd
                have HP := hide hP
                have HQ := hide hQ
                clear hP hQ hcy
                by_cases hta : t = axis
                · have bta : ((t : Int) == (axis : Int)) = true := by simp [hta]
                  have HTA := hide hta
                  clear hta
                  go_wp2_with (first | (go_at_call 71; refine (must_yes _).mono ?_; rintro e w' ⟨rfl, rfl⟩) | fail)
                  go_roundw
                  case rel =>
                    refine ⟨by trivial, t + 1, by omega, by go_num, fun i hi => ?_⟩
                    rcases lt_succ_cases hi with h | rfl
                    · exact HA.out i h
                    · exact .inl HTA.out
                  case measure => simp [intOf]; omega
                · have bta : ((t : Int) == (axis : Int)) = false := by simpa using (fun h => hta (by omega) : ¬ (t : Int) = axis)
                  have HTA := hide hta
                  clear hta
                  by_cases hpq : P = Q
                  · have bpq : (P == Q) = true := by simp [hpq]
                    have HPQ := hide hpq
                    clear hpq
                    go_wp2_with (first | (go_at_call 71; refine (must_yes _).mono ?_; rintro e w' ⟨rfl, rfl⟩) | fail)
                    go_roundw
                    case rel =>
                      refine ⟨by trivial, t + 1, by omega, by go_num, fun i hi => ?_⟩
                      rcases lt_succ_cases hi with h | rfl
                      · exact HA.out i h
                      · exact .inr (by rw [← HP.out, ← HQ.out]; exact HPQ.out)
                    case measure => simp [intOf]; omega
                  · have bpq : (P == Q) = false := by simpa using hpq
                    have E2 : Hid (joinedP A x (rs.map (·.2)) = .error 4) := by
                      show _ = _
                      rw [E1.out, ← HST2.out, likeP_bad htl HTA.out (by rw [← HP.out, ← HQ.out]; exact hpq)]
                      rfl
                    clear hpq
                    go_wp2_with (first | (go_at_call 71; refine (must_no _).mono ?_; rintro e w' ⟨rfl, rfl⟩) | fail)
                    exact ⟨rfl, ended_err E2.out g3.out⟩
              · have hyp : axis < y.length := by have := HYL.out; omega
                obtain ⟨yb, yo, rfl, hcy⟩ := HY.out.get hyp
                have cy := cell_still (hcy axis hyp) g3.out
                have by1 := FY.out.pos _ (getD_mem2 hyp)
                have by2 := FY.out.le_each (getD_mem2 hyp)
                obtain ⟨cd, fd⟩ := HO6.out.cells (k := axis) (by rw [HDD.out]; exact hax)
                have bd := HBD.out (D.getD axis 0) (getD_mem2 (by rw [HDD.out]; exact hax))
                have HST3 : Hid (joinL axis ((rs.map (·.2)).drop (k + 1)) (D.set axis (D.getD axis 0 + y.getD axis 0)) = joinL axis (rs.map (·.2)) x) := by
                  show _ = _
                  rw [← HST2.out, likeP_good (fun i hi => HA.out i (by omega))]
                  rfl
                obtain ⟨P, hP⟩ : ∃ P, P = y.getD axis 0 := ⟨_, rfl⟩
                obtain ⟨Q, hQ⟩ : ∃ Q, Q = D.getD axis 0 := ⟨_, rfl⟩
                rw [← hP] at cy by1 by2 HST3
                rw [← hQ] at cd bd HST3
                have hk19 : (k : Int) ≤ 19 := by omega
                obtain ⟨so, sg⟩ := HO6.out.put axis (Q + P) (by omega)
                have SO : Hid (Owns (w3.setCell ⟨g, axis, none⟩ (.int .i64 (Q + P))) w.heap.size (.slice (some ⟨g, 0, none⟩) x.length qc) (D.set axis (Q + P))) := by show Owns _ _ _ _; rw [← HDD.out]; exact so
                have SG := hide (grown_drop g3.out sg hwg)
                have HB : Hid (∀ z ∈ D.set axis (Q + P), 0 ≤ z ∧ z ≤ 65536 + 65536 * ((k + 1 : Nat) : Int)) := fun z hz => by
                  rcases List.mem_or_eq_of_mem_set hz with h1 | rfl
                  · have := HBD.out z h1; omega
                  · omega
                have hyp' : (axis : Int) < (y.length : Int) := by omega
                clear hP hQ hcy so sg
                go_wp2_with fail
                go_region
                go_wp2_with fail
                go_roundw
                case rel => exact ⟨k + 1, _, by omega, by go_num, SO.out.new (grown_drew (grown_refl _)), by rw [List.length_set]; exact HDD.out, HST3.out, HB.out, grown_drew SG.out⟩
                case measure => simp [intOf]; omega
          · have byl : ((y.length : Int) == (x.length : Int)) = false := by simpa using (fun h => hyl (by omega) : ¬ (y.length : Int) = x.length)
            have E2 : Hid (joinedP A x (rs.map (·.2)) = .error 4) := by show _ = _; rw [E1.out, ← HST.out]; simp [mustP, hyl, HDD.out]; rfl
            clear hyl
            rw [byl]
            refine (must_no _).mono ?_
            rintro e w' ⟨rfl, rfl⟩
            exact ⟨rfl, ended_err E2.out g3.out⟩
        · have E2 : Hid (joinedP A x (rs.map (·.2)) = .ok D) := by
            show _ = _
            rw [E1.out, ← hst, List.drop_of_length_le (by rw [List.length_map]; omega)]
            rfl
          clear ho hg hst hbd
          go_wp2
          go_ret
          exact ended_ok E2.out HG.out ⟨⟨_, _, _⟩, rfl, HO4.out.ints⟩
end Go.Proofs.YteigfipgmghgmaaGreatDoor
