/- What infer makes of dims: turned, squeezed, unsqueezed, padded, by the walk. -/
import Derived.Test.YteigfipgmghgmaaGreatDoorIDims
namespace Go.Proofs.YteigfipgmghgmaaGreatDoor
open Go.RowKit

theorem axesO_all {rank : Nat} : ∀ {l : List Int} {is r : List Bool}, axesO rank l is = some r → ∀ a ∈ l, ∃ i, axisO a rank = some i
  | [], _, _, _, a, ha => by simp at ha
  | b :: l, is, r, h, a, ha => by
    unfold axesO at h
    cases hb : axisO b rank with
    | none => rw [hb] at h; cases h
    | some i =>
      rw [hb] at h
      simp only at h
      split at h
      · cases h
      · rcases List.mem_cons.1 ha with rfl | ha
        · exact ⟨i, hb⟩
        · exact axesO_all h a ha

theorem axesP_all {l : List Int} {rank : Nat} {is : List Bool} (h : axesP l rank = .ok is) : ∀ a ∈ l, ∃ i, axisO a rank = some i := by
  unfold axesP at h
  cases hx : axesO rank l (List.replicate rank false) with
  | none => rw [hx] at h; cases h
  | some r => exact axesO_all hx

theorem axisO_pos {a : Int} {rank i : Nat} (h : axisO a rank = some i) (ha : 0 ≤ a) : a.toNat < rank := by
  have e : fromEndP a rank = a := by unfold fromEndP; rw [if_neg (by omega)]
  unfold axisO at h
  rw [e] at h
  split at h
  · cases h
  · split at h
    · cases h
    · omega

/-- Behind what is there already. -/
def after (acc : List Int) (r : R (List Int)) : R (List Int) := match r with
  | .ok l => .ok (acc ++ l)
  | .error c => .error c

theorem permL_step {x l : List Int} {k : Nat} (hk : k < l.length) (acc : List Int) : after acc (permL x (l.drop k)) = if 0 ≤ l.getD k 0 then after (acc ++ [x.getD (l.getD k 0).toNat 0]) (permL x (l.drop (k + 1))) else .error 4 := by
  rw [drop_step l k hk]
  simp only [permL]
  split
  · cases permL x (l.drop (k + 1)) <;> simp [Except.map, after]
  · rfl

set_option maxRecDepth 100000 in
theorem transposed_any (n : Nod) (A : At) (u : Sl) (x : List Int) (w : World) (hn : NodeOk w n A) (hx : IsInts w u.v x) (hf : Fine x) : Calls Tryz.prog 114 #[nval n, .slice u.a u.n u.c] w (Ended w (transposedP A x) DimsQ) := by
  obtain ⟨ux, uc, eu, c1, c2, c3⟩ := hx.sl
  obtain ⟨ua, un, uu⟩ := u
  simp only [Sl.v, Value.slice.injEq] at eu
  obtain ⟨rfl, rfl, rfl⟩ := eu
  have HX := hide hx
  have FEW := hf.few
  clear hx hf
  have NK := hide hn
  obtain ⟨op, nam, ⟨ia, il, ic⟩, out, ⟨ao, al, cap⟩⟩ := n
  unfold nval
  simp only
  obtain ⟨w0, hw0⟩ : ∃ w0, w0 = w.alloc (.cells #[.string op, .string nam, .slice ia il ic, .string out, .slice ao al cap] 25) := ⟨_, rfl⟩
  have g0 : Hid (w.grownBy w0 none) := by show w.grownBy w0 none; rw [hw0]; exact grown_new _ _
  have hb0 := heap_alloc_new w (.cells #[.string op, .string nam, .slice ia il ic, .string out, .slice ao al cap] 25)
  rw [← hw0] at hb0
  have BX : Hid (∀ wx, w0.grownBy wx none → wx.heap[w.heap.size]? = some (.cells #[.string op, .string nam, .slice ia il ic, .string out, .slice ao al cap] 25 (0, 0))) := fun wx hg => box_kept hb0 hg
  clear hb0 hn
  have PM := hide (perm_any ⟨op, nam, ⟨ia, il, ic⟩, out, ⟨ao, al, cap⟩⟩ A x.length w0 (NK.out.more g0.out) (by omega))
  unfold nval at PM
  simp only at PM
  obtain ⟨l, hl⟩ : ∃ l, l = permP A x.length := ⟨_, rfl⟩
  rw [← hl] at PM
  have E0 : Hid (transposedP A x = (mustP (decide (l.length = x.length))).bind (fun _ => (axesP l x.length).bind (fun _ => permL x l))) := by show _ = _; rw [hl]; rfl
  clear hl
  go_enter Tryz.func114, Tryz.ntmps114
  go_wp2_with fail
  rw [← hw0]
  clear hw0
  refine PM.out.mono ?_
  rintro e w1 ⟨s, rfl, hs, hg1⟩
  have G1 := hide (grown_trans g0.out hg1)
  obtain ⟨sa, sc, es, d1, d2, d3⟩ := hs.sl
  obtain ⟨s1, s2, s3⟩ := s
  simp only [Sl.v, Value.slice.injEq] at es
  obtain ⟨rfl, rfl, rfl⟩ := es
  simp only [Sl.v] at hs ⊢
  have HS := hide hs
  clear hs hg1 PM
  by_cases hlen : l.length = x.length
  · have b0 : ((l.length : Int) == (x.length : Int)) = true := by simp [hlen]
    have E1 : Hid (transposedP A x = (axesP l x.length).bind (fun _ => permL x l)) := by show _ = _; rw [E0.out]; simp [mustP, hlen]; rfl
    have AX := hide (axesof_any ⟨s1, l.length, s3⟩ l x.length w1 HS.out (by omega))
    cases hk : axesP l x.length with
    | error c =>
      rw [hk] at AX
      have E2 : Hid (transposedP A x = .error c) := by show _ = _; rw [E1.out, hk]; rfl
      clear hk hlen
      go_wp2_with (first | (go_at_call 71; refine (must_yes _).mono ?_; rintro e w' ⟨rfl, rfl⟩) | (go_at_call 108; refine AX.out.mono ?_; rintro e w' ⟨hg, rfl⟩))
      exact ⟨rfl, ended_err E2.out (grown_trans G1.out hg)⟩
    | ok gone =>
      rw [hk] at AX
      have ALL := hide (axesP_all hk)
      have E2 : Hid (transposedP A x = permL x l) := by show _ = _; rw [E1.out, hk]; rfl
      have HLEN := hide hlen
      clear hk hlen
      go_wp2_with (first | (go_at_call 71; refine (must_yes _).mono ?_; rintro e w' ⟨rfl, rfl⟩) | (go_at_call 108; refine AX.out.mono ?_; rintro e w3 ⟨hg3, v, rfl, B, rfl, ho, hl⟩))
      have G3 := hide (grown_trans G1.out hg3)
      have G13 := hide hg3
      clear hg3 ho hl b0
      go_loopw [6, 25] (fun s i wr => ∃ (k : Nat) (u : Sl) (acc : List Int), k ≤ l.length ∧ i = .int .i64 k ∧ s = .slice u.a u.n u.c ∧ Owns wr w3.heap.size u.v acc ∧ acc.length ≤ k ∧ after acc (permL x (l.drop k)) = permL x l ∧ w3.grownBy wr none) (fun _ i _ => l.length - (intOf i).toNat)
      case atStart => exact ⟨0, ⟨none, 0, 0⟩, [], Nat.zero_le _, rfl, rfl, owns_nil _ _, Nat.le_refl _, by rw [List.drop_zero]; cases permL x l <;> rfl, grown_refl _⟩
      case round =>
        obtain ⟨k, ⟨qa, qn, qc⟩, acc, hk, rfl, rfl, ho, hal, hst, hg⟩ := hrel
        simp only
        have HO1 := hide ho
        have HG := hide hg
        have hsz := hg.size
        by_cases hkl : k < l.length
        · obtain ⟨b, off, rfl, hc⟩ := HS.out.get hkl
          have hcell : wr.cell? ⟨b, off + k, none⟩ = some (.int .i64 (l.getD k 0)) := cell_still (hc k hkl) (grown_trans G13.out hg)
          have hmem : l.getD k 0 ∈ l := by simp [List.getD, hkl]
          obtain ⟨i, hi⟩ := ALL.out _ hmem
          rw [permL_step hkl] at hst
          obtain ⟨p, hp0⟩ : ∃ p, p = l.getD k 0 := ⟨_, rfl⟩
          rw [← hp0] at hcell hst hi
          clear hc hp0 ho hmem
          by_cases hp : 0 ≤ p
          · rw [if_pos hp] at hst
            have hlt := axisO_pos hi hp
            obtain ⟨q, hq⟩ : ∃ q : Nat, q = p.toNat := ⟨_, rfl⟩
            have hpq : p = (q : Int) := by omega
            rw [← hq] at hst hlt
            clear hq
            subst hpq
            obtain ⟨b', off', e', hcx⟩ := HX.out.get (k := q) hlt
            cases e'
            have hcell2 : wr.cell? ⟨b', off' + q, none⟩ = some (.int .i64 (x.getD q 0)) := cell_still (hcx q hlt) (grown_trans G3.out hg)
            have hwf := HX.out.wf (x.getD q 0) (by simp [List.getD, hlt])
            have HST := hide hst
            obtain ⟨d, hd⟩ : ∃ d, d = x.getD q 0 := ⟨_, rfl⟩
            rw [← hd] at hcell2 hwf HST
            clear hst hd hi hcx hg
            go_wp2_with (first | (go_at_call 71; refine (must_yes _).mono ?_; rintro e w' ⟨rfl, rfl⟩) | (at_builtin; refine wpList_push rfl (.tmp 32) (.tmp 37) rfl w3.heap.size _ _ rfl HO1.out d rfl hwf (by omega) (by omega) ?_; intro v' w4 hown hgrow))
            obtain ⟨⟨xa, xn, xc⟩, rfl⟩ := hown.sl
            have HO2 := hide hown
            have HG2 := hide (hgrow w3 (Nat.le_refl _) HG.out)
            clear hown hgrow
            go_roundw
            case rel => exact ⟨k + 1, ⟨xa, xn, xc⟩, _, by omega, by go_num, rfl, HO2.out, by simp; omega, HST.out, HG2.out⟩
            case measure => simp [intOf]; omega
          · rw [if_neg hp] at hst
            have E3 : Hid (transposedP A x = .error 4) := by show _ = _; rw [E2.out, ← hst]
            clear hst hg hi
            go_wp2_with (go_at_call 71; refine (must_no _).mono ?_; rintro e w' ⟨rfl, rfl⟩)
            exact ⟨rfl, ended_err E3.out (grown_trans G3.out HG.out)⟩
        · have E3 : Hid (transposedP A x = .ok acc) := by
            show _ = _
            rw [E2.out, ← hst, List.drop_of_length_le (by omega)]
            simp [permL, after]
          clear ho hg hst
          go_wp2
          go_ret
          exact ended_ok E3.out (grown_trans G3.out HG.out) ⟨⟨qa, qn, qc⟩, rfl, HO1.out.ints⟩
  · have b0 : ((l.length : Int) == (x.length : Int)) = false := by simpa using (fun h => hlen (by omega) : ¬ (l.length : Int) = x.length)
    have E1 : Hid (transposedP A x = .error 4) := by show _ = _; rw [E0.out]; simp [mustP, hlen]; rfl
    clear hlen
    go_wp2_with (go_at_call 71; refine (must_no _).mono ?_; rintro e w' ⟨rfl, rfl⟩)
    exact ⟨rfl, ended_err E1.out G1.out⟩

theorem dropB_step (zs : List Bool) (k : Nat) (hk : k < zs.length) : zs.drop k = zs.getD k false :: zs.drop (k + 1) := by
  rw [List.drop_eq_getElem_cons hk]
  simp [List.getD, hk]

theorem squeezeL_step {x : List Int} {gs : List Bool} {k : Nat} (hk : k < x.length) (hg : k < gs.length) (acc : List Int) : after acc (squeezeL (x.drop k) (gs.drop k)) = if gs.getD k false = true then (if x.getD k 0 = 1 then after acc (squeezeL (x.drop (k + 1)) (gs.drop (k + 1))) else .error 4) else after (acc ++ [x.getD k 0]) (squeezeL (x.drop (k + 1)) (gs.drop (k + 1))) := by
  rw [drop_step x k hk, dropB_step gs k hg]
  simp only [squeezeL]
  split
  · split
    · rfl
    · rfl
  · cases squeezeL (x.drop (k + 1)) (gs.drop (k + 1)) <;> simp [Except.map, after]

set_option maxRecDepth 100000 in
theorem squeezed_any (u v : Sl) (x l : List Int) (w : World) (hx : IsInts w u.v x) (hv : IsInts w v.v l) (hf : Fine x) : Calls Tryz.prog 120 #[.slice u.a u.n u.c, .slice v.a v.n v.c] w (Ended w (squeezedP x l) DimsQ) := by
  obtain ⟨ux, uc, eu, c1, c2, c3⟩ := hx.sl
  obtain ⟨ua, un, uu⟩ := u
  simp only [Sl.v, Value.slice.injEq] at eu
  obtain ⟨rfl, rfl, rfl⟩ := eu
  have HX := hide hx
  have FEW := hf.few
  have AX := hide (axesof_any v l x.length w hv (by omega))
  clear hx hf hv
  cases hk : axesP l x.length with
  | error c =>
    rw [hk] at AX
    have E2 : Hid (squeezedP x l = .error c) := by show _ = _; unfold squeezedP; rw [hk]; rfl
    clear hk
    go_enter Tryz.func120, Tryz.ntmps120
    go_wp2_with (go_at_call 108; refine AX.out.mono ?_; rintro e w' ⟨hg, rfl⟩)
    exact ⟨rfl, ended_err E2.out hg⟩
  | ok gone =>
    rw [hk] at AX
    have E2 : Hid (squeezedP x l = squeezeL x gone) := by show _ = _; unfold squeezedP; rw [hk]; rfl
    clear hk
    go_enter Tryz.func120, Tryz.ntmps120
    go_wp2_with (go_at_call 108; refine AX.out.mono ?_; rintro e w3 ⟨hg3, v, rfl, B, rfl, ho, hl⟩)
    have G3 := hide hg3
    have HO := hide ho
    have HL := hide hl
    clear hg3 ho hl
    go_loopw [6, 15] (fun s i wr => ∃ (k : Nat) (u : Sl) (acc : List Int), k ≤ x.length ∧ i = .int .i64 k ∧ s = .slice u.a u.n u.c ∧ Owns wr w3.heap.size u.v acc ∧ acc.length ≤ k ∧ after acc (squeezeL (x.drop k) (gone.drop k)) = squeezeL x gone ∧ w3.grownBy wr none) (fun _ i _ => x.length - (intOf i).toNat)
    case atStart => exact ⟨0, ⟨none, 0, 0⟩, [], Nat.zero_le _, rfl, rfl, owns_nil _ _, Nat.le_refl _, by rw [List.drop_zero, List.drop_zero]; cases squeezeL x gone <;> rfl, grown_refl _⟩
    case round =>
      obtain ⟨k, ⟨qa, qn, qc⟩, acc, hk, rfl, rfl, ho, hal, hst, hg⟩ := hrel
      simp only
      have HO1 := hide ho
      have HG := hide hg
      have hsz := hg.size
      by_cases hkl : k < x.length
      · obtain ⟨b, off, rfl, hc⟩ := HX.out.get hkl
        have hcell : wr.cell? ⟨b, off + k, none⟩ = some (.int .i64 (x.getD k 0)) := cell_still (hc k hkl) (grown_trans G3.out hg)
        have hwf := HX.out.wf (x.getD k 0) (by simp [List.getD, hkl])
        have hgk : k < gone.length := by rw [HL.out]; exact hkl
        obtain ⟨cb, fb⟩ := (HO.out.new hg).at (k := k) (v := gone.getD k false) (by simp [List.getD, hgk])
        rw [squeezeL_step hkl hgk] at hst
        obtain ⟨d, hd0⟩ : ∃ d, d = x.getD k 0 := ⟨_, rfl⟩
        obtain ⟨gb, hgb⟩ : ∃ gb, gb = gone.getD k false := ⟨_, rfl⟩
        rw [← hd0] at hcell hst hwf
        rw [← hgb] at cb hst
        clear hc hd0 hgb ho hg
        cases gb with
        | false =>
          rw [if_neg (by decide)] at hst
          have HST := hide hst
          clear hst
          go_wp2_with (first | (go_at_call 71; refine (must_yes _).mono ?_; rintro e w' ⟨rfl, rfl⟩) | (at_builtin; refine wpList_push rfl (.tmp 35) (.tmp 37) rfl w3.heap.size _ _ rfl HO1.out d rfl hwf (by omega) (by omega) ?_; intro v' w4 hown hgrow))
          obtain ⟨⟨xa, xn, xc⟩, rfl⟩ := hown.sl
          have HO2 := hide hown
          have HG2 := hide (hgrow w3 (Nat.le_refl _) HG.out)
          clear hown hgrow
          go_roundw
          case rel => exact ⟨k + 1, ⟨xa, xn, xc⟩, _, by omega, by go_num, rfl, HO2.out, by simp; omega, HST.out, HG2.out⟩
          case measure => simp [intOf]; omega
        | true =>
          rw [if_pos rfl] at hst
          by_cases hd : d = 1
          · rw [if_pos hd] at hst
            have HST := hide hst
            have b1 : (d == 1) = true := by simp [hd]
            clear hst hd
            go_wp2_with (go_at_call 71; refine (must_yes _).mono ?_; rintro e w' ⟨rfl, rfl⟩)
            go_roundw
            case rel => exact ⟨k + 1, ⟨qa, qn, qc⟩, acc, by omega, by go_num, rfl, HO1.out, by omega, HST.out, HG.out⟩
            case measure => simp [intOf]; omega
          · rw [if_neg hd] at hst
            have b1 : (d == 1) = false := by simpa using hd
            have E3 : Hid (squeezedP x l = .error 4) := by show _ = _; rw [E2.out, ← hst]
            clear hst hd
            go_wp2_with (go_at_call 71; refine (must_no _).mono ?_; rintro e w' ⟨rfl, rfl⟩)
            exact ⟨rfl, ended_err E3.out (grown_trans G3.out HG.out)⟩
      · have E3 : Hid (squeezedP x l = .ok acc) := by
          show _ = _
          rw [E2.out, ← hst, List.drop_of_length_le (by omega)]
          simp [squeezeL, after]
        clear ho hg hst
        go_wp2
        go_ret
        exact ended_ok E3.out (grown_trans G3.out HG.out) ⟨⟨qa, qn, qc⟩, rfl, HO1.out.ints⟩
end Go.Proofs.YteigfipgmghgmaaGreatDoor
