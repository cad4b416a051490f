/- What infer makes of dims: unsqueezed, padded, by the walk. -/
import Derived.Test.YteigfipgmghgmaaGreatDoorIDim2
namespace Go.Proofs.YteigfipgmghgmaaGreatDoor
open Go.RowKit

/-- What is behind the first number of a list, as Go cuts it. -/
theorem IsInts.tail {w : World} {b off n c : Nat} {zs : List Int} (h : IsInts w (.slice (some ⟨b, off, none⟩) n c) zs) (hp : 0 < zs.length) : IsInts w (.slice (if c = 1 then some ⟨b, off, none⟩ else some ⟨b, off + 1, none⟩) (n - 1) (c - 1)) zs.tail := by
  obtain ⟨ao, cap, e, h1, h2, h3, h4, h5, h6⟩ := h
  cases e
  have hl : zs.tail.length = zs.length - 1 := by simp
  have hm : ∀ z ∈ zs.tail, -9223372036854775808 ≤ z ∧ z ≤ 9223372036854775807 := fun z hz => h6 z (List.mem_of_mem_tail hz)
  by_cases hc : c = 1
  · rw [if_pos hc]
    have : zs.length = 1 := by omega
    exact ⟨_, _, by rw [hl], by rw [hl]; omega, by omega, by rw [hl]; omega, (fun h => by cases h), fun h => (by rw [hl] at h; omega), hm⟩
  · rw [if_neg hc]
    refine ⟨_, _, by rw [hl], by rw [hl]; omega, by omega, by rw [hl]; omega, (fun h => by cases h), fun _ => ⟨b, off + 1, rfl, fun k hk => ?_⟩, hm⟩
    rw [hl] at hk
    obtain ⟨b', off', e', hcx⟩ := h5 hp
    cases e'
    rw [Nat.add_assoc, Nat.add_comm 1 k, hcx (k + 1) (by omega), ← List.drop_one]
    simp [List.getD]

theorem Fine.le_each {x : List Int} (h : Fine x) {z : Int} (hz : z ∈ x) : z ≤ 65536 := by
  obtain ⟨k, hk, rfl⟩ := List.mem_iff_getElem.1 hz
  have h1 := prod_drop_le h.pos k
  have h2 := prod_drop_step x k hk
  have h3 := Go.Proofs.YteigfipgmghgmaaGreatDoor.prod_pos _ (pos_drop h.pos (k + 1))
  have h4 : x.getD k 0 = x[k] := by simp [List.getD, hk]
  rw [h4] at h2
  have h5 := h.pos _ hz
  have h6 := le_mul_right h3 (show 0 ≤ x[k] by omega)
  have := h.le
  omega

theorem count_set {is : List Bool} {i : Nat} (hi : i < is.length) (h : is.getD i false = false) : (is.set i true).count false + 1 = is.count false := by
  induction is generalizing i with
  | nil => simp at hi
  | cons b l ih =>
    cases i with
    | zero =>
      have e : b = false := by simpa [List.getD] using h
      subst e
      simp
    | succ i =>
      have := ih (i := i) (by simpa using hi) (by simpa [List.getD] using h)
      simp only [List.set_cons_succ, List.count_cons]
      omega

theorem axesO_count {rank : Nat} : ∀ {l : List Int} {is r : List Bool}, is.length = rank → axesO rank l is = some r → r.count false + l.length = is.count false ∧ r.length = rank
  | [], is, r, hl, h => by
    unfold axesO at h
    cases h
    exact ⟨by simp, hl⟩
  | b :: l, is, r, hl, h => by
    unfold axesO at h
    cases hb : axisO b rank with
    | none => rw [hb] at h; cases h
    | some i =>
      rw [hb] at h
      simp only at h
      split at h
      · cases h
      · rename_i hne
        have hi : i < is.length := by rw [hl]; exact axisO_lt hb
        have h1 := axesO_count (by rw [List.length_set]; exact hl) h
        have h2 := count_set hi (by simpa using hne)
        refine ⟨?_, h1.2⟩
        simp only [List.length_cons]
        omega

theorem axesP_count {l : List Int} {rank : Nat} {is : List Bool} (h : axesP l rank = .ok is) : is.count false + l.length = rank ∧ is.length = rank := by
  unfold axesP at h
  cases hx : axesO rank l (List.replicate rank false) with
  | none => rw [hx] at h; cases h
  | some r =>
    rw [hx] at h
    cases h
    have := axesO_count (by simp) hx
    rw [List.count_replicate_self] at this
    exact this

theorem unsqL_len : ∀ (l : List Bool) (x : List Int), (unsqL l x).length = l.length
  | [], _ => rfl
  | true :: l, x => by simp [unsqL, unsqL_len l x]
  | false :: l, x => by simp [unsqL, unsqL_len l x.tail]

theorem unsq_true {l : List Bool} {k : Nat} (hk : k < l.length) (h : l.getD k false = true) (x : List Int) : unsqL (l.drop k) x = 1 :: unsqL (l.drop (k + 1)) x := by
  rw [dropB_step l k hk, h]
  rfl

theorem unsq_false {l : List Bool} {k : Nat} (hk : k < l.length) (h : l.getD k false = false) (x : List Int) : unsqL (l.drop k) x = x.getD 0 0 :: unsqL (l.drop (k + 1)) x.tail := by
  rw [dropB_step l k hk, h]
  rfl

set_option maxRecDepth 100000 in
theorem unsqueezed_any (u v : Sl) (x l : List Int) (w : World) (hx : IsInts w u.v x) (hv : IsInts w v.v l) (hf : Fine x) (hll : l.length ≤ 100000000) : Calls Tryz.prog 121 #[.slice u.a u.n u.c, .slice v.a v.n v.c] w (Ended w (unsqueezedP x l) DimsQ) := by
  obtain ⟨ux, uc, eu, c1, c2, c3⟩ := hx.sl
  obtain ⟨ua, un, uu⟩ := u
  simp only [Sl.v, Value.slice.injEq] at eu
  obtain ⟨rfl, rfl, rfl⟩ := eu
  obtain ⟨vx, vc, ev, d1, d2, d3⟩ := hv.sl
  obtain ⟨va, vn, vv⟩ := v
  simp only [Sl.v, Value.slice.injEq] at ev
  obtain ⟨rfl, rfl, rfl⟩ := ev
  have HX := hide hx
  have FEW := hf.few
  have AX := hide (axesof_any ⟨va, l.length, vv⟩ l (x.length + l.length) w hv (by omega))
  rw [Int.natCast_add] at AX
  clear hx hf hv
  cases hk : axesP l (x.length + l.length) with
  | error c =>
    rw [hk] at AX
    have E2 : Hid (unsqueezedP x l = .error c) := by show _ = _; unfold unsqueezedP; rw [hk]; rfl
    clear hk
    go_enter Tryz.func121, Tryz.ntmps121
    go_wp2_with (go_at_call 108; refine AX.out.mono ?_; rintro e w' ⟨hg, rfl⟩)
    exact ⟨rfl, ended_err E2.out hg⟩
  | ok isn =>
    rw [hk] at AX
    have E2 : Hid (unsqueezedP x l = .ok (unsqL isn x)) := by show _ = _; unfold unsqueezedP; rw [hk]; rfl
    have CN := hide (axesP_count hk)
    clear hk
    go_enter Tryz.func121, Tryz.ntmps121
    go_wp2_with (go_at_call 108; refine AX.out.mono ?_; rintro e w3 ⟨hg3, v, rfl, B, rfl, ho, hl⟩)
    have G3 := hide hg3
    have HO := hide ho
    have HL := hide hl
    clear hg3 ho hl
    go_loopw [0, 6, 18] (fun xv s i wr => ∃ (k m : Nat) (u : Sl) (ta : Option Addr) (tc : Nat) (acc : List Int), k ≤ x.length + l.length ∧ i = .int .i64 k ∧ s = .slice u.a u.n u.c ∧ xv = .slice ta (x.length - m) tc ∧ Owns wr w3.heap.size u.v acc ∧ IsInts w (.slice ta (x.length - m) tc) (x.drop m) ∧ acc.length ≤ k ∧ acc ++ unsqL (isn.drop k) (x.drop m) = unsqL isn x ∧ (isn.drop k).count false = (x.drop m).length ∧ w3.grownBy wr none) (fun _ _ i _ => x.length + l.length - (intOf i).toNat)
    case atStart => exact ⟨0, 0, ⟨none, 0, 0⟩, ua, uu, [], Nat.zero_le _, rfl, rfl, rfl, owns_nil _ _, by rw [List.drop_zero]; exact HX.out, Nat.le_refl _, by simp, by have := CN.out.1; simp; omega, grown_refl _⟩
    case round =>
      obtain ⟨k, m, ⟨qa, qn, qc⟩, ta, tc, acc, hk, rfl, rfl, rfl, ho, ht, hal, hst, hct, hg⟩ := hrel
      simp only
      have HO1 := hide ho
      have HG := hide hg
      have HT := hide ht
      have hsz := hg.size
      obtain ⟨xx, cc, ee, f1, f2, f3⟩ := ht.sl
      rw [List.length_drop] at ee f1 f3
      simp only [Value.slice.injEq] at ee
      obtain ⟨rfl, -, rfl⟩ := ee
      by_cases hkl : k < x.length + l.length
      · have hgk : k < isn.length := by rw [HL.out]; exact hkl
        obtain ⟨cb, fb⟩ := (HO.out.new hg).at (k := k) (v := isn.getD k false) (by simp [List.getD, hgk])
        cases hb : isn.getD k false with
        | true =>
          rw [unsq_true hgk hb] at hst
          have hct2 : (isn.drop (k + 1)).count false = (x.drop m).length := by rw [dropB_step isn k hgk, hb] at hct; simpa using hct
          rw [hb] at cb
          have HST := hide hst
          have HCT := hide hct2
          clear hst hct hct2 hb ho ht hg
          go_wp2_with (at_builtin; refine wpList_push rfl (.tmp 23) (.tmp 24) rfl w3.heap.size _ _ rfl HO1.out 1 rfl (by omega) (by omega) (by omega) ?_; intro v' w4 hown hgrow)
          obtain ⟨⟨xa, xn, xc⟩, rfl⟩ := hown.sl
          have HO2 := hide hown
          have HG2 := hide (hgrow w3 (Nat.le_refl _) HG.out)
          clear hown hgrow
          go_roundw
          case rel => exact ⟨k + 1, m, ⟨xa, xn, xc⟩, ta, tc, _, by omega, by go_num, rfl, rfl, HO2.out, HT.out, by simp; omega, by rw [← HST.out]; simp, HCT.out, HG2.out⟩
          case measure => simp [intOf]; omega
        | false =>
          rw [unsq_false hgk hb] at hst
          have hct2 : (isn.drop (k + 1)).count false + 1 = (x.drop m).length := by rw [dropB_step isn k hgk, hb] at hct; simpa using hct
          have hm : m < x.length := by simp at hct2; omega
          have hpos : 0 < (x.drop m).length := by omega
          obtain ⟨b, off, rfl, hc⟩ := ht.get hpos
          have hcell : wr.cell? ⟨b, off + 0, none⟩ = some (.int .i64 ((x.drop m).getD 0 0)) := cell_still (hc 0 hpos) (grown_trans G3.out hg)
          rw [Nat.add_zero] at hcell
          have hwf := ht.wf ((x.drop m).getD 0 0) (by rw [List.getD, List.getElem?_eq_getElem hpos]; exact List.getElem_mem hpos)
          have pt := ht.tail hpos
          have et : (x.drop m).tail = x.drop (m + 1) := by rw [← List.drop_one, List.drop_drop]
          rw [et] at hst pt
          rw [Nat.sub_sub] at pt
          rw [hb] at cb
          have HST := hide hst
          have HPT := hide pt
          have HCT : Hid ((isn.drop (k + 1)).count false = (x.drop (m + 1)).length) := by show _ = _; rw [List.length_drop] at hct2 ⊢; omega
          obtain ⟨d, hd⟩ : ∃ d, d = (x.drop m).getD 0 0 := ⟨_, rfl⟩
          rw [← hd] at hcell hwf HST
          clear hst hct hct2 hb ho ht hg hc pt et hd
          go_wp2_with (at_builtin; refine wpList_push rfl (.tmp 26) (.tmp 30) rfl w3.heap.size _ _ rfl HO1.out d rfl hwf (by omega) (by omega) ?_; intro v' w4 hown hgrow)
          obtain ⟨⟨xa, xn, xc⟩, rfl⟩ := hown.sl
          have HO2 := hide hown
          have HG2 := hide (hgrow w3 (Nat.le_refl _) HG.out)
          clear hown hgrow
          go_roundw
          case rel => rw [Nat.sub_sub]; exact ⟨k + 1, m + 1, ⟨xa, xn, xc⟩, _, _, _, by omega, by go_num, rfl, rfl, HO2.out, HPT.out, by simp; omega, by rw [← HST.out]; simp, HCT.out, HG2.out⟩
          case measure => simp [intOf]; omega
      · have E3 : Hid (unsqueezedP x l = .ok acc) := by
          show _ = _
          rw [E2.out, ← hst, List.drop_of_length_le (l := isn) (by rw [HL.out]; omega)]
          simp [unsqL]
        clear ho hg hst ht hct
        go_wp2
        go_ret
        exact ended_ok E3.out (grown_trans G3.out HG.out) ⟨⟨qa, qn, qc⟩, rfl, HO1.out.ints⟩

theorem eqlI_nil (w : World) (a : Option Addr) (l c : Nat) : (binOp .eql 29 (.slice a l c) (.slice none 0 0)).run Tryz.prog w = .ok (.bool a.isNone) w := by
  cases a <;> kernel_rfl

theorem ownsI_empty (w : World) : Owns (w.alloc (.cells #[] 3)) w.heap.size (.slice (some ⟨w.heap.size, 0, none⟩) 0 0) [] :=
  ⟨⟨rfl, .inr ⟨w.heap.size, 0, #[], rfl, Nat.le_refl _, heap_alloc_new w _, Nat.le_refl _, by simp [maxLen], rfl, rfl⟩⟩, by simp, fun z hz => by simp at hz⟩

set_option maxRecDepth 100000 in
theorem cloneI_any (u : Sl) (zs : List Int) (w : World) (h : IsInts w u.v zs) :
    Calls Tryz.prog 94 #[.slice u.a u.n u.c] w fun e w' => ∃ u : Sl, e = .returned (.slice u.a u.n u.c) ∧ Owns w' w.heap.size u.v zs ∧ w.grownBy w' none := by
  have H := hide h
  obtain ⟨ua, un, uc⟩ := u
  obtain ⟨ux, cc, eu, c1, c2, c3⟩ := h.sl
  simp only [Sl.v, Value.slice.injEq] at eu
  obtain ⟨rfl, rfl, rfl⟩ := eu
  simp only
  have q := eqlI_nil w ua zs.length uc
  cases ua with
  | none =>
    obtain ⟨ao, cap, e, h1, h2, h3, h4, h5, h6⟩ := h
    cases e
    obtain ⟨rfl, rfl⟩ := h4 rfl
    clear h4 h5 h6
    simp only [List.length_nil] at q ⊢
    go_enter Tryz.func94, Tryz.ntmps94
    go_wp2
    go_ret
    exact ⟨⟨none, 0, 0⟩, rfl, owns_nil _ _, grown_refl _⟩
  | some ad =>
    clear h
    go_enter Tryz.func94, Tryz.ntmps94
    have OE := hide (ownsI_empty w)
    have HM : Hid (∀ o, IsInts (w.alloc o) (.slice (some ad) zs.length uc) zs) := fun o => H.out.more (grown_new _ _)
    clear H
    go_wp2_with (at_builtin; refine wpList_app rfl (.tmp 5) (.tmp 6) rfl w.heap.size (.slice (some ⟨w.heap.size, 0, none⟩) 0 0) [] rfl OE.out (.slice (some ad) zs.length uc) zs rfl (HM.out _) ?_ ?_ ?_; (simpa using c3); simp; intro v' w1 hown hgrow)
    go_ret
    obtain ⟨s, rfl⟩ := hown.sl
    exact ⟨s, rfl, by simpa using hown, grown_trans_row (grown_new w (.cells #[] 3)) hgrow (fun r e => by cases e; exact Nat.le_refl _)⟩

theorem Owns.shape {w : World} {base : Nat} {v : Value} {zs : List Int} (h : Owns w base v zs) (hl : 0 < zs.length) : ∃ g cap, v = .slice (some ⟨g, 0, none⟩) zs.length cap ∧ base ≤ g ∧ g < w.heap.size ∧ zs.length ≤ cap ∧ cap ≤ 9223372036854775807 := by
  rcases h.1.2 with ⟨-, h0⟩ | ⟨g, cap, cur, e, hg, hh, h1, h2, -⟩
  · omega
  · exact ⟨g, cap, e, hg, by have := (Array.getElem?_eq_some_iff.1 hh).1; exact this, h1, by simpa [maxLen] using h2⟩

theorem Owns.cells {w : World} {base g cap : Nat} {zs : List Int} (h : Owns w base (.slice (some ⟨g, 0, none⟩) zs.length cap) zs) {k : Nat} (hk : k < zs.length) : w.cell? ⟨g, k, none⟩ = some (.int .i64 (zs.getD k 0)) ∧ w.frozen? ⟨g, k, none⟩ = false := by
  refine ⟨?_, World.ownsRow.frozenAt h.1 k⟩
  obtain ⟨b, off, e, hc⟩ := h.ints.get hk
  cases e
  have := hc k hk
  rwa [Nat.zero_add] at this

theorem Owns.put {w : World} {base g cap : Nat} {zs : List Int} (h : Owns w base (.slice (some ⟨g, 0, none⟩) zs.length cap) zs) (k : Nat) (z : Int) (hz : -9223372036854775808 ≤ z ∧ z ≤ 9223372036854775807) : Owns (w.setCell ⟨g, k, none⟩ (.int .i64 z)) base (.slice (some ⟨g, 0, none⟩) zs.length cap) (zs.set k z) ∧ w.grownBy (w.setCell ⟨g, k, none⟩ (.int .i64 z)) (some g) := by
  have s := World.ownsRow.stored h.1 k (.int .i64 z)
  rw [← List.map_set] at s
  refine ⟨⟨?_, by rw [List.length_set]; exact h.2.1, fun y hy => ?_⟩, s.2⟩
  · rw [List.length_set]
    exact s.1
  · rcases List.mem_or_eq_of_mem_set hy with h1 | rfl
    · exact h.2.2 y h1
    · exact hz

theorem padL_step {r : Nat} {l : List Int} {k : Nat} (hk : k < l.length) (dims : List Int) : padL r (l.drop k) k dims = if 0 ≤ l.getD k 0 ∧ l.getD k 0 ≤ 65536 then padL r (l.drop (k + 1)) (k + 1) (dims.set (k % r) (dims.getD (k % r) 0 + l.getD k 0)) else .error 4 := by
  rw [drop_step l k hk]
  simp only [padL, mustP]
  by_cases h : 0 ≤ l.getD k 0 ∧ l.getD k 0 ≤ 65536
  · rw [if_pos (by simpa using h), if_pos h]
    rfl
  · rw [if_neg (by simpa using h), if_neg h]
    rfl

set_option maxRecDepth 100000 in
theorem padded_any (u v : Sl) (x l : List Int) (w : World) (hx : IsInts w u.v x) (hv : IsInts w v.v l) (hf : Fine x) : Calls Tryz.prog 119 #[.slice u.a u.n u.c, .slice v.a v.n v.c] w (Ended w (paddedP x l) DimsQ) := by
  obtain ⟨ux, uc, eu, c1, c2, c3⟩ := hx.sl
  obtain ⟨ua, un, uu⟩ := u
  simp only [Sl.v, Value.slice.injEq] at eu
  obtain ⟨rfl, rfl, rfl⟩ := eu
  obtain ⟨vx, vc, ev, d1, d2, d3⟩ := hv.sl
  obtain ⟨va, vn, vv⟩ := v
  simp only [Sl.v, Value.slice.injEq] at ev
  obtain ⟨rfl, rfl, rfl⟩ := ev
  have HV := hide hv
  have FEW := hf.few
  have CL := hide (cloneI_any ⟨ua, x.length, uu⟩ x w hx)
  have PB : Hid (∀ z ∈ x, 1 ≤ z ∧ z ≤ 65536) := fun z hz => ⟨hf.pos z hz, by
    have := Fine.le_each hf hz
    exact this⟩
  clear hx hf hv
  simp only at CL ⊢
  by_cases hlen : l.length = 2 * x.length
  · have b0 : ((l.length : Int) == 2 * (x.length : Int)) = true := by simp; omega
    have E1 : Hid (paddedP x l = padL x.length l 0 x) := by show _ = _; unfold paddedP mustP; simp [hlen]; rfl
    have HLEN := hide hlen
    clear hlen
    go_enter Tryz.func119, Tryz.ntmps119
    go_wp2_with (first | (go_at_call 71; refine (must_yes _).mono ?_; rintro e w' ⟨rfl, rfl⟩) | (go_at_call 94; refine CL.out.mono ?_; rintro e w3 ⟨⟨qa, qn, qc⟩, rfl, ho, hg3⟩; simp only))
    have HO := hide ho
    have G3 := hide hg3
    clear ho hg3 b0 CL
    go_loopw [19] (fun i wr => ∃ (k : Nat) (L : List Int), k ≤ l.length ∧ i = .int .i64 k ∧ Owns wr w.heap.size (.slice qa qn qc) L ∧ L.length = x.length ∧ padL x.length (l.drop k) k L = padL x.length l 0 x ∧ (∀ z ∈ L, 0 ≤ z ∧ z ≤ 65536 + 65536 * k) ∧ w.grownBy wr none) (fun i _ => l.length - (intOf i).toNat)
    case atStart => exact ⟨0, x, Nat.zero_le _, rfl, HO.out, rfl, by rw [List.drop_zero], fun z hz => by have := PB.out z hz; omega, G3.out⟩
    case round =>
      obtain ⟨k, L, hk, rfl, ho, hL, hst, hbd, hg⟩ := hrel
      have HG := hide hg
      have HO1 := hide ho
      by_cases hkl : k < l.length
      · have hxp : 0 < x.length := by have := HLEN.out; omega
        obtain ⟨b, off, rfl, hc⟩ := HV.out.get hkl
        have hcell : wr.cell? ⟨b, off + k, none⟩ = some (.int .i64 (l.getD k 0)) := cell_still (hc k hkl) hg
        rw [padL_step hkl] at hst
        obtain ⟨p, hp0⟩ : ∃ p, p = l.getD k 0 := ⟨_, rfl⟩
        rw [← hp0] at hcell hst
        clear hc hp0
        by_cases hp : 0 ≤ p ∧ p ≤ 65536
        · rw [if_pos hp] at hst
          obtain ⟨hp1, hp2⟩ := hp
          obtain ⟨g, cap, eo, hbg, hgl, hlc, hcm⟩ := ho.shape (by rw [hL]; exact hxp)
          simp only [Value.slice.injEq] at eo
          obtain ⟨rfl, rfl, rfl⟩ := eo
          obtain ⟨m, hm⟩ : ∃ m : Nat, m = k % x.length := ⟨_, rfl⟩
          have hml : m < x.length := by rw [hm]; exact Nat.mod_lt _ hxp
          obtain ⟨cc, fc⟩ := ho.cells (k := m) (by rw [hL]; exact hml)
          have hbm := hbd (L.getD m 0) (by rw [List.getD, List.getElem?_eq_getElem (by rw [hL]; exact hml)]; exact List.getElem_mem _)
          rw [← hm] at hst
          obtain ⟨q, hq⟩ : ∃ q, q = L.getD m 0 := ⟨_, rfl⟩
          rw [← hq] at cc hbm hst
          have hkk : (k : Int) ≤ 12 := by have := HLEN.out; omega
          obtain ⟨so, sg⟩ := ho.put m (q + p) (by omega)
          have SO := hide so
          have SG := hide (grown_drop hg sg hbg)
          have HST := hide hst
          have HB : Hid (∀ z ∈ L.set m (q + p), 0 ≤ z ∧ z ≤ 65536 + 65536 * ((k + 1 : Nat) : Int)) := fun z hz => by
            rcases List.mem_or_eq_of_mem_set hz with h1 | rfl
            · have := hbd z h1; omega
            · omega
          have hmod : (k : Int).tmod (x.length : Int) = (m : Int) := by rw [hm, Int.tmod_eq_emod_of_nonneg (by omega)]; omega
          have hx0 : ¬ (x.length : Int) = 0 := by omega
          have HLL := hide hL
          rw [hL]
          rw [hL] at hlc
          clear hst hbd ho hg so sg hq hm hL
          go_wp2_with (first | (go_at_call 71; refine (must_yes _).mono ?_; rintro e w' ⟨rfl, rfl⟩) | fail)
          go_roundw
          case rel => exact ⟨k + 1, _, by omega, by go_num, by have h := SO.out; rw [HLL.out] at h; exact h, by rw [List.length_set]; exact HLL.out, HST.out, HB.out, SG.out⟩
          case measure => simp [intOf]; omega
        · rw [if_neg hp] at hst
          have E3 : Hid (paddedP x l = .error 4) := by show _ = _; rw [E1.out, ← hst]
          clear hst hbd ho hg
          by_cases h0 : 0 ≤ p
          · have h1 : ¬ p ≤ 65536 := fun h => hp ⟨h0, h⟩
            clear hp
            go_wp2_with (first | (go_at_call 71; refine (must_no _).mono ?_; rintro e w' ⟨rfl, rfl⟩) | fail)
            exact ⟨rfl, ended_err E3.out HG.out⟩
          · clear hp
            go_wp2_with (first | (go_at_call 71; refine (must_no _).mono ?_; rintro e w' ⟨rfl, rfl⟩) | fail)
            exact ⟨rfl, ended_err E3.out HG.out⟩
      · have E3 : Hid (paddedP x l = .ok L) := by
          show _ = _
          rw [E1.out, ← hst, List.drop_of_length_le (by omega)]
          rfl
        clear hst hbd ho hg
        go_wp2
        go_ret
        exact ended_ok E3.out HG.out ⟨⟨qa, qn, qc⟩, rfl, HO1.out.ints⟩
  · have b0 : ((l.length : Int) == 2 * (x.length : Int)) = false := by simpa using (fun h => hlen (by omega) : ¬ (l.length : Int) = 2 * x.length)
    have E1 : Hid (paddedP x l = .error 4) := by show _ = _; unfold paddedP mustP; simp [hlen]; rfl
    clear hlen
    go_enter Tryz.func119, Tryz.ntmps119
    go_wp2_with (go_at_call 71; refine (must_no _).mono ?_; rintro e w' ⟨rfl, rfl⟩)
    exact ⟨rfl, ended_err E1.out (grown_refl _)⟩
end Go.Proofs.YteigfipgmghgmaaGreatDoor
