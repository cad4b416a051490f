/- Joined texts: IDim3, IDim4, IDim5, IType, ITy, IValue. -/
import Derived.Test.YtfladhogkhhlcaaGreatDoorPartP
import Derived.BigQuiet
import Derived.Deep.RegionWith
import Derived.Test.YtfladhogkhhlcaaGreatDoorPartO
import Derived.Deep.RegionHeld3
/- What infer makes of dims: unsqueezed, padded, by the walk. -/
namespace Go.Proofs.YtfladhogkhhlcaaGreatDoor
open Go.RowKit

/-- What is behind the first number of a list, as Go cuts it. -/
theorem IsInts.tail {w : World} {b off n c : Nat} {zs : List Int} (h : IsInts w (.slice (some ⟨b, off, none⟩) n c) zs) (hp : 0 < zs.length) : IsInts w (.slice (if c = 1 then some ⟨b, off, none⟩ else some ⟨b, off + 1, none⟩) (n - 1) (c - 1)) zs.tail := by
  obtain ⟨ao, cap, e, h1, h2, h3, h4, h5, h6⟩ := h
  cases e
  have hl : zs.tail.length = zs.length - 1 := by simp
  have hm : ∀ z ∈ zs.tail, -9223372036854775808 ≤ z ∧ z ≤ 9223372036854775807 := fun z hz => h6 z (List.mem_of_mem_tail hz)
  by_cases hc : c = 1
  · rw [if_pos hc]
    have : zs.length = 1 := by omega
    exact ⟨_, _, by rw [hl], by rw [hl]; omega, by omega, by rw [hl]; omega, (fun h => by cases h), fun h => (by rw [hl] at h; omega), hm⟩
  · rw [if_neg hc]
    refine ⟨_, _, by rw [hl], by rw [hl]; omega, by omega, by rw [hl]; omega, (fun h => by cases h), fun _ => ⟨b, off + 1, rfl, fun k hk => ?_⟩, hm⟩
    rw [hl] at hk
    obtain ⟨b', off', e', hcx⟩ := h5 hp
    cases e'
    rw [Nat.add_assoc, Nat.add_comm 1 k, hcx (k + 1) (by omega), ← List.drop_one]
    simp [List.getD]

theorem Fine.le_each {x : List Int} (h : Fine x) {z : Int} (hz : z ∈ x) : z ≤ 65536 := by
  obtain ⟨k, hk, rfl⟩ := List.mem_iff_getElem.1 hz
  have h1 := prod_drop_le h.pos k
  have h2 := prod_drop_step x k hk
  have h3 := Go.Proofs.YtfladhogkhhlcaaGreatDoor.prod_pos _ (pos_drop h.pos (k + 1))
  have h4 : x.getD k 0 = x[k] := by simp [List.getD, hk]
  rw [h4] at h2
  have h5 := h.pos _ hz
  have h6 := le_mul_right h3 (show 0 ≤ x[k] by omega)
  have := h.le
  omega

theorem count_set {is : List Bool} {i : Nat} (hi : i < is.length) (h : is.getD i false = false) : (is.set i true).count false + 1 = is.count false := by
  induction is generalizing i with
  | nil => simp at hi
  | cons b l ih =>
    cases i with
    | zero =>
      have e : b = false := by simpa [List.getD] using h
      subst e
      simp
    | succ i =>
      have := ih (i := i) (by simpa using hi) (by simpa [List.getD] using h)
      simp only [List.set_cons_succ, List.count_cons]
      omega

theorem axesO_count {rank : Nat} : ∀ {l : List Int} {is r : List Bool}, is.length = rank → axesO rank l is = some r → r.count false + l.length = is.count false ∧ r.length = rank
  | [], is, r, hl, h => by
    unfold axesO at h
    cases h
    exact ⟨by simp, hl⟩
  | b :: l, is, r, hl, h => by
    unfold axesO at h
    cases hb : axisO b rank with
    | none => rw [hb] at h; cases h
    | some i =>
      rw [hb] at h
      simp only at h
      split at h
      · cases h
      · rename_i hne
        have hi : i < is.length := by rw [hl]; exact axisO_lt hb
        have h1 := axesO_count (by rw [List.length_set]; exact hl) h
        have h2 := count_set hi (by simpa using hne)
        refine ⟨?_, h1.2⟩
        simp only [List.length_cons]
        omega

theorem axesP_count {l : List Int} {rank : Nat} {is : List Bool} (h : axesP l rank = .ok is) : is.count false + l.length = rank ∧ is.length = rank := by
  unfold axesP at h
  cases hx : axesO rank l (List.replicate rank false) with
  | none => rw [hx] at h; cases h
  | some r =>
    rw [hx] at h
    cases h
    have := axesO_count (by simp) hx
    rw [List.count_replicate_self] at this
    exact this

theorem unsqL_len : ∀ (l : List Bool) (x : List Int), (unsqL l x).length = l.length
  | [], _ => rfl
  | true :: l, x => by simp [unsqL, unsqL_len l x]
  | false :: l, x => by simp [unsqL, unsqL_len l x.tail]

theorem unsq_true {l : List Bool} {k : Nat} (hk : k < l.length) (h : l.getD k false = true) (x : List Int) : unsqL (l.drop k) x = 1 :: unsqL (l.drop (k + 1)) x := by
  rw [dropB_step l k hk, h]
  rfl

theorem unsq_false {l : List Bool} {k : Nat} (hk : k < l.length) (h : l.getD k false = false) (x : List Int) : unsqL (l.drop k) x = x.getD 0 0 :: unsqL (l.drop (k + 1)) x.tail := by
  rw [dropB_step l k hk, h]
  rfl

set_option maxRecDepth 100000 in
theorem unsqueezed_any (u v : Sl) (x l : List Int) (w : World) (hx : IsInts w u.v x) (hv : IsInts w v.v l) (hf : Fine x) (hll : l.length ≤ 100000000) : Calls Tryz.prog 123 #[.slice u.a u.n u.c, .slice v.a v.n v.c] w (Ended w (unsqueezedP x l) DimsQ) := by
  obtain ⟨ux, uc, eu, c1, c2, c3⟩ := hx.sl
  obtain ⟨ua, un, uu⟩ := u
  simp only [Sl.v, Value.slice.injEq] at eu
  obtain ⟨rfl, rfl, rfl⟩ := eu
  obtain ⟨vx, vc, ev, d1, d2, d3⟩ := hv.sl
  obtain ⟨va, vn, vv⟩ := v
  simp only [Sl.v, Value.slice.injEq] at ev
  obtain ⟨rfl, rfl, rfl⟩ := ev
  have HX := hide hx
  have FEW := hf.few
  have AX := hide (axesof_any ⟨va, l.length, vv⟩ l (x.length + l.length) w hv (by omega))
  rw [Int.natCast_add] at AX
  clear hx hf hv
  cases hk : axesP l (x.length + l.length) with
  | error c =>
    rw [hk] at AX
    have E2 : Hid (unsqueezedP x l = .error c) := by show _ = _; unfold unsqueezedP; rw [hk]; rfl
    clear hk
    go_enter Tryz.func123, Tryz.ntmps123
    go_wp2_with (go_at_call 111; refine AX.out.mono ?_; rintro e w' ⟨hg, rfl⟩)
    exact ⟨rfl, ended_err E2.out hg⟩
  | ok isn =>
    rw [hk] at AX
    have E2 : Hid (unsqueezedP x l = .ok (unsqL isn x)) := by show _ = _; unfold unsqueezedP; rw [hk]; rfl
    have CN := hide (axesP_count hk)
    clear hk
    go_enter Tryz.func123, Tryz.ntmps123
    go_wp2_with (go_at_call 111; refine AX.out.mono ?_; rintro e w3 ⟨hg3, v, rfl, B, rfl, ho, hl⟩)
    have G3 := hide hg3
    have HO := hide ho
    have HL := hide hl
    clear hg3 ho hl
    go_loopw [0, 6, 18] (fun xv s i wr => ∃ (k m : Nat) (u : Sl) (ta : Option Addr) (tc : Nat) (acc : List Int), k ≤ x.length + l.length ∧ i = .int .i64 k ∧ s = .slice u.a u.n u.c ∧ xv = .slice ta (x.length - m) tc ∧ Owns wr w3.heap.size u.v acc ∧ IsInts w (.slice ta (x.length - m) tc) (x.drop m) ∧ acc.length ≤ k ∧ acc ++ unsqL (isn.drop k) (x.drop m) = unsqL isn x ∧ (isn.drop k).count false = (x.drop m).length ∧ w3.grownBy wr none) (fun _ _ i _ => x.length + l.length - (intOf i).toNat)
    case atStart => exact ⟨0, 0, ⟨none, 0, 0⟩, ua, uu, [], Nat.zero_le _, rfl, rfl, rfl, owns_nil _ _, by rw [List.drop_zero]; exact HX.out, Nat.le_refl _, by simp, by have := CN.out.1; simp; omega, grown_refl _⟩
    case round =>
      obtain ⟨k, m, ⟨qa, qn, qc⟩, ta, tc, acc, hk, rfl, rfl, rfl, ho, ht, hal, hst, hct, hg⟩ := hrel
      simp only
      have HO1 := hide ho
      have HG := hide hg
      have HT := hide ht
      have hsz := hg.size
      obtain ⟨xx, cc, ee, f1, f2, f3⟩ := ht.sl
      rw [List.length_drop] at ee f1 f3
      simp only [Value.slice.injEq] at ee
      obtain ⟨rfl, -, rfl⟩ := ee
      by_cases hkl : k < x.length + l.length
      · have hgk : k < isn.length := by rw [HL.out]; exact hkl
        obtain ⟨cb, fb⟩ := (HO.out.new hg).at (k := k) (v := isn.getD k false) (by simp [List.getD, hgk])
        cases hb : isn.getD k false with
        | true =>
          rw [unsq_true hgk hb] at hst
          have hct2 : (isn.drop (k + 1)).count false = (x.drop m).length := by rw [dropB_step isn k hgk, hb] at hct; simpa using hct
          rw [hb] at cb
          have HST := hide hst
          have HCT := hide hct2
          clear hst hct hct2 hb ho ht hg
          go_wp2_with (at_builtin; refine wpList_push rfl (.tmp 23) (.tmp 24) rfl w3.heap.size _ _ rfl HO1.out 1 rfl (by omega) (by omega) (by omega) ?_; intro v' w4 hown hgrow)
          obtain ⟨⟨xa, xn, xc⟩, rfl⟩ := hown.sl
          have HO2 := hide hown
          have HG2 := hide (hgrow w3 (Nat.le_refl _) HG.out)
          clear hown hgrow
          go_roundw
          case rel => exact ⟨k + 1, m, ⟨xa, xn, xc⟩, ta, tc, _, by omega, by go_num, rfl, rfl, HO2.out, HT.out, by simp; omega, by rw [← HST.out]; simp, HCT.out, HG2.out⟩
          case measure => simp [intOf]; omega
        | false =>
          rw [unsq_false hgk hb] at hst
          have hct2 : (isn.drop (k + 1)).count false + 1 = (x.drop m).length := by rw [dropB_step isn k hgk, hb] at hct; simpa using hct
          have hm : m < x.length := by simp at hct2; omega
          have hpos : 0 < (x.drop m).length := by omega
          obtain ⟨b, off, rfl, hc⟩ := ht.get hpos
          have hcell : wr.cell? ⟨b, off + 0, none⟩ = some (.int .i64 ((x.drop m).getD 0 0)) := cell_still (hc 0 hpos) (grown_trans G3.out hg)
          rw [Nat.add_zero] at hcell
          have hwf := ht.wf ((x.drop m).getD 0 0) (by rw [List.getD, List.getElem?_eq_getElem hpos]; exact List.getElem_mem hpos)
          have pt := ht.tail hpos
          have et : (x.drop m).tail = x.drop (m + 1) := by rw [← List.drop_one, List.drop_drop]
          rw [et] at hst pt
          rw [Nat.sub_sub] at pt
          rw [hb] at cb
          have HST := hide hst
          have HPT := hide pt
          have HCT : Hid ((isn.drop (k + 1)).count false = (x.drop (m + 1)).length) := by show _ = _; rw [List.length_drop] at hct2 ⊢; omega
          obtain ⟨d, hd⟩ : ∃ d, d = (x.drop m).getD 0 0 := ⟨_, rfl⟩
          rw [← hd] at hcell hwf HST
          clear hst hct hct2 hb ho ht hg hc pt et hd
          go_wp2_with (at_builtin; refine wpList_push rfl (.tmp 26) (.tmp 30) rfl w3.heap.size _ _ rfl HO1.out d rfl hwf (by omega) (by omega) ?_; intro v' w4 hown hgrow)
          obtain ⟨⟨xa, xn, xc⟩, rfl⟩ := hown.sl
          have HO2 := hide hown
          have HG2 := hide (hgrow w3 (Nat.le_refl _) HG.out)
          clear hown hgrow
          go_roundw
          case rel => rw [Nat.sub_sub]; exact ⟨k + 1, m + 1, ⟨xa, xn, xc⟩, _, _, _, by omega, by go_num, rfl, rfl, HO2.out, HPT.out, by simp; omega, by rw [← HST.out]; simp, HCT.out, HG2.out⟩
          case measure => simp [intOf]; omega
      · have E3 : Hid (unsqueezedP x l = .ok acc) := by
          show _ = _
          rw [E2.out, ← hst, List.drop_of_length_le (l := isn) (by rw [HL.out]; omega)]
          simp [unsqL]
        clear ho hg hst ht hct
        go_wp2
        go_ret
        exact ended_ok E3.out (grown_trans G3.out HG.out) ⟨⟨qa, qn, qc⟩, rfl, HO1.out.ints⟩

theorem eqlI_nil (w : World) (a : Option Addr) (l c : Nat) : (binOp .eql 22 (.slice a l c) (.slice none 0 0)).run Tryz.prog w = .ok (.bool a.isNone) w := by
  cases a <;> kernel_rfl

theorem ownsI_empty (w : World) : Owns (w.alloc (.cells #[] 3)) w.heap.size (.slice (some ⟨w.heap.size, 0, none⟩) 0 0) [] :=
  ⟨⟨rfl, .inr ⟨w.heap.size, 0, #[], rfl, Nat.le_refl _, heap_alloc_new w _, Nat.le_refl _, by simp [maxLen], rfl, rfl⟩⟩, by simp, fun z hz => by simp at hz⟩

set_option maxRecDepth 100000 in
theorem cloneI_any (u : Sl) (zs : List Int) (w : World) (h : IsInts w u.v zs) :
    Calls Tryz.prog 80 #[.slice u.a u.n u.c] w fun e w' => ∃ u : Sl, e = .returned (.slice u.a u.n u.c) ∧ Owns w' w.heap.size u.v zs ∧ w.grownBy w' none := by
  have H := hide h
  obtain ⟨ua, un, uc⟩ := u
  obtain ⟨ux, cc, eu, c1, c2, c3⟩ := h.sl
  simp only [Sl.v, Value.slice.injEq] at eu
  obtain ⟨rfl, rfl, rfl⟩ := eu
  simp only
  have q := eqlI_nil w ua zs.length uc
  cases ua with
  | none =>
    obtain ⟨ao, cap, e, h1, h2, h3, h4, h5, h6⟩ := h
    cases e
    obtain ⟨rfl, rfl⟩ := h4 rfl
    clear h4 h5 h6
    simp only [List.length_nil] at q ⊢
    go_enter Tryz.func80, Tryz.ntmps80
    go_wp2
    go_ret
    exact ⟨⟨none, 0, 0⟩, rfl, owns_nil _ _, grown_refl _⟩
  | some ad =>
    clear h
    go_enter Tryz.func80, Tryz.ntmps80
    have OE := hide (ownsI_empty w)
    have HM : Hid (∀ o, IsInts (w.alloc o) (.slice (some ad) zs.length uc) zs) := fun o => H.out.more (grown_new _ _)
    clear H
    go_wp2_with (at_builtin; refine wpList_app rfl (.tmp 5) (.tmp 6) rfl w.heap.size (.slice (some ⟨w.heap.size, 0, none⟩) 0 0) [] rfl OE.out (.slice (some ad) zs.length uc) zs rfl (HM.out _) ?_ ?_ ?_; (simpa using c3); simp; intro v' w1 hown hgrow)
    go_ret
    obtain ⟨s, rfl⟩ := hown.sl
    exact ⟨s, rfl, by simpa using hown, grown_trans_row (grown_new w (.cells #[] 3)) hgrow (fun r e => by cases e; exact Nat.le_refl _)⟩

theorem Owns.shape {w : World} {base : Nat} {v : Value} {zs : List Int} (h : Owns w base v zs) (hl : 0 < zs.length) : ∃ g cap, v = .slice (some ⟨g, 0, none⟩) zs.length cap ∧ base ≤ g ∧ g < w.heap.size ∧ zs.length ≤ cap ∧ cap ≤ 9223372036854775807 := by
  rcases h.1.2 with ⟨-, h0⟩ | ⟨g, cap, cur, e, hg, hh, h1, h2, -⟩
  · omega
  · exact ⟨g, cap, e, hg, by have := (Array.getElem?_eq_some_iff.1 hh).1; exact this, h1, by simpa [maxLen] using h2⟩

theorem Owns.cells {w : World} {base g cap : Nat} {zs : List Int} (h : Owns w base (.slice (some ⟨g, 0, none⟩) zs.length cap) zs) {k : Nat} (hk : k < zs.length) : w.cell? ⟨g, k, none⟩ = some (.int .i64 (zs.getD k 0)) ∧ w.frozen? ⟨g, k, none⟩ = false := by
  refine ⟨?_, World.ownsRow.frozenAt h.1 k⟩
  obtain ⟨b, off, e, hc⟩ := h.ints.get hk
  cases e
  have := hc k hk
  rwa [Nat.zero_add] at this

theorem Owns.put {w : World} {base g cap : Nat} {zs : List Int} (h : Owns w base (.slice (some ⟨g, 0, none⟩) zs.length cap) zs) (k : Nat) (z : Int) (hz : -9223372036854775808 ≤ z ∧ z ≤ 9223372036854775807) : Owns (w.setCell ⟨g, k, none⟩ (.int .i64 z)) base (.slice (some ⟨g, 0, none⟩) zs.length cap) (zs.set k z) ∧ w.grownBy (w.setCell ⟨g, k, none⟩ (.int .i64 z)) (some g) := by
  have s := World.ownsRow.stored h.1 k (.int .i64 z)
  rw [← List.map_set] at s
  refine ⟨⟨?_, by rw [List.length_set]; exact h.2.1, fun y hy => ?_⟩, s.2⟩
  · rw [List.length_set]
    exact s.1
  · rcases List.mem_or_eq_of_mem_set hy with h1 | rfl
    · exact h.2.2 y h1
    · exact hz

theorem padL_step {r : Nat} {l : List Int} {k : Nat} (hk : k < l.length) (dims : List Int) : padL r (l.drop k) k dims = if 0 ≤ l.getD k 0 ∧ l.getD k 0 ≤ 65536 then padL r (l.drop (k + 1)) (k + 1) (dims.set (k % r) (dims.getD (k % r) 0 + l.getD k 0)) else .error 4 := by
  rw [drop_step l k hk]
  simp only [padL, mustP]
  by_cases h : 0 ≤ l.getD k 0 ∧ l.getD k 0 ≤ 65536
  · rw [if_pos (by simpa using h), if_pos h]
    rfl
  · rw [if_neg (by simpa using h), if_neg h]
    rfl

set_option maxRecDepth 100000 in
theorem padded_any (u v : Sl) (x l : List Int) (w : World) (hx : IsInts w u.v x) (hv : IsInts w v.v l) (hf : Fine x) : Calls Tryz.prog 121 #[.slice u.a u.n u.c, .slice v.a v.n v.c] w (Ended w (paddedP x l) DimsQ) := by
  obtain ⟨ux, uc, eu, c1, c2, c3⟩ := hx.sl
  obtain ⟨ua, un, uu⟩ := u
  simp only [Sl.v, Value.slice.injEq] at eu
  obtain ⟨rfl, rfl, rfl⟩ := eu
  obtain ⟨vx, vc, ev, d1, d2, d3⟩ := hv.sl
  obtain ⟨va, vn, vv⟩ := v
  simp only [Sl.v, Value.slice.injEq] at ev
  obtain ⟨rfl, rfl, rfl⟩ := ev
  have HV := hide hv
  have FEW := hf.few
  have CL := hide (cloneI_any ⟨ua, x.length, uu⟩ x w hx)
  have PB : Hid (∀ z ∈ x, 1 ≤ z ∧ z ≤ 65536) := fun z hz => ⟨hf.pos z hz, by
    have := Fine.le_each hf hz
    exact this⟩
  clear hx hf hv
  simp only at CL ⊢
  by_cases hlen : l.length = 2 * x.length
  · have b0 : ((l.length : Int) == 2 * (x.length : Int)) = true := by simp; omega
    have E1 : Hid (paddedP x l = padL x.length l 0 x) := by show _ = _; unfold paddedP mustP; simp [hlen]; rfl
    have HLEN := hide hlen
    clear hlen
    go_enter Tryz.func121, Tryz.ntmps121
    go_wp2_with (first | (go_at_call 87; refine (must_yes _).mono ?_; rintro e w' ⟨rfl, rfl⟩) | (go_at_call 80; refine CL.out.mono ?_; rintro e w3 ⟨⟨qa, qn, qc⟩, rfl, ho, hg3⟩; simp only))
    have HO := hide ho
    have G3 := hide hg3
    clear ho hg3 b0 CL
    go_loopw [19] (fun i wr => ∃ (k : Nat) (L : List Int), k ≤ l.length ∧ i = .int .i64 k ∧ Owns wr w.heap.size (.slice qa qn qc) L ∧ L.length = x.length ∧ padL x.length (l.drop k) k L = padL x.length l 0 x ∧ (∀ z ∈ L, 0 ≤ z ∧ z ≤ 65536 + 65536 * k) ∧ w.grownBy wr none) (fun i _ => l.length - (intOf i).toNat)
    case atStart => exact ⟨0, x, Nat.zero_le _, rfl, HO.out, rfl, by rw [List.drop_zero], fun z hz => by have := PB.out z hz; omega, G3.out⟩
    case round =>
      obtain ⟨k, L, hk, rfl, ho, hL, hst, hbd, hg⟩ := hrel
      have HG := hide hg
      have HO1 := hide ho
      by_cases hkl : k < l.length
      · have hxp : 0 < x.length := by have := HLEN.out; omega
        obtain ⟨b, off, rfl, hc⟩ := HV.out.get hkl
        have hcell : wr.cell? ⟨b, off + k, none⟩ = some (.int .i64 (l.getD k 0)) := cell_still (hc k hkl) hg
        rw [padL_step hkl] at hst
        obtain ⟨p, hp0⟩ : ∃ p, p = l.getD k 0 := ⟨_, rfl⟩
        rw [← hp0] at hcell hst
        clear hc hp0
        by_cases hp : 0 ≤ p ∧ p ≤ 65536
        · rw [if_pos hp] at hst
          obtain ⟨hp1, hp2⟩ := hp
          obtain ⟨g, cap, eo, hbg, hgl, hlc, hcm⟩ := ho.shape (by rw [hL]; exact hxp)
          simp only [Value.slice.injEq] at eo
          obtain ⟨rfl, rfl, rfl⟩ := eo
          obtain ⟨m, hm⟩ : ∃ m : Nat, m = k % x.length := ⟨_, rfl⟩
          have hml : m < x.length := by rw [hm]; exact Nat.mod_lt _ hxp
          obtain ⟨cc, fc⟩ := ho.cells (k := m) (by rw [hL]; exact hml)
          have hbm := hbd (L.getD m 0) (by rw [List.getD, List.getElem?_eq_getElem (by rw [hL]; exact hml)]; exact List.getElem_mem _)
          rw [← hm] at hst
          obtain ⟨q, hq⟩ : ∃ q, q = L.getD m 0 := ⟨_, rfl⟩
          rw [← hq] at cc hbm hst
          have hkk : (k : Int) ≤ 12 := by have := HLEN.out; omega
          obtain ⟨so, sg⟩ := ho.put m (q + p) (by omega)
          have SO := hide so
          have SG := hide (grown_drop hg sg hbg)
          have HST := hide hst
          have HB : Hid (∀ z ∈ L.set m (q + p), 0 ≤ z ∧ z ≤ 65536 + 65536 * ((k + 1 : Nat) : Int)) := fun z hz => by
            rcases List.mem_or_eq_of_mem_set hz with h1 | rfl
            · have := hbd z h1; omega
            · omega
          have hmod : (k : Int).tmod (x.length : Int) = (m : Int) := by rw [hm, Int.tmod_eq_emod_of_nonneg (by omega)]; omega
          have hx0 : ¬ (x.length : Int) = 0 := by omega
          have HLL := hide hL
          rw [hL]
          rw [hL] at hlc
          clear hst hbd ho hg so sg hq hm hL
          go_wp2_with (first | (go_at_call 87; refine (must_yes _).mono ?_; rintro e w' ⟨rfl, rfl⟩) | fail)
          go_roundw
          case rel => exact ⟨k + 1, _, by omega, by go_num, by have h := SO.out; rw [HLL.out] at h; exact h, by rw [List.length_set]; exact HLL.out, HST.out, HB.out, SG.out⟩
          case measure => simp [intOf]; omega
        · rw [if_neg hp] at hst
          have E3 : Hid (paddedP x l = .error 4) := by show _ = _; rw [E1.out, ← hst]
          clear hst hbd ho hg
          by_cases h0 : 0 ≤ p
          · have h1 : ¬ p ≤ 65536 := fun h => hp ⟨h0, h⟩
            clear hp
            go_wp2_with (first | (go_at_call 87; refine (must_no _).mono ?_; rintro e w' ⟨rfl, rfl⟩) | fail)
            exact ⟨rfl, ended_err E3.out HG.out⟩
          · clear hp
            go_wp2_with (first | (go_at_call 87; refine (must_no _).mono ?_; rintro e w' ⟨rfl, rfl⟩) | fail)
            exact ⟨rfl, ended_err E3.out HG.out⟩
      · have E3 : Hid (paddedP x l = .ok L) := by
          show _ = _
          rw [E1.out, ← hst, List.drop_of_length_le (by omega)]
          rfl
        clear hst hbd ho hg
        go_wp2
        go_ret
        exact ended_ok E3.out HG.out ⟨⟨qa, qn, qc⟩, rfl, HO1.out.ints⟩
  · have b0 : ((l.length : Int) == 2 * (x.length : Int)) = false := by simpa using (fun h => hlen (by omega) : ¬ (l.length : Int) = 2 * x.length)
    have E1 : Hid (paddedP x l = .error 4) := by show _ = _; unfold paddedP mustP; simp [hlen]; rfl
    clear hlen
    go_enter Tryz.func121, Tryz.ntmps121
    go_wp2_with (go_at_call 87; refine (must_no _).mono ?_; rintro e w' ⟨rfl, rfl⟩)
    exact ⟨rfl, ended_err E1.out (grown_refl _)⟩
end Go.Proofs.YtfladhogkhhlcaaGreatDoor

/- What infer makes of dims: flattened, sliced, by the walk. -/
namespace Go.Proofs.YtfladhogkhhlcaaGreatDoor
open Go.RowKit

theorem Fine.take {zs : List Int} (h : Fine zs) (k : Nat) : Fine (zs.take k) :=
  ⟨pos_take h.pos k, by have := h.few; simp; omega, Int.le_trans (prod_take_le h.pos k) h.le⟩

theorem IsInts.front {w : World} {a : Option Addr} {n c : Nat} {zs : List Int} (h : IsInts w (.slice a n c) zs) {k : Nat} (hk : k ≤ zs.length) : IsInts w (.slice a k c) (zs.take k) := by
  obtain ⟨ao, cap, e, h1, h2, h3, h4, h5, h6⟩ := h
  cases e
  have hl : (zs.take k).length = k := by simp; omega
  refine ⟨a, c, by rw [hl], by rw [hl]; omega, h2, by rw [hl]; omega, fun h => ?_, fun hp => ?_, fun z hz => h6 z (List.mem_of_mem_take hz)⟩
  · obtain ⟨rfl, rfl⟩ := h4 h
    exact ⟨by simp, rfl⟩
  · rw [hl] at hp
    obtain ⟨b, off, rfl, hc⟩ := h5 (by omega)
    refine ⟨b, off, rfl, fun t ht => ?_⟩
    rw [hl] at ht
    rw [hc t (by omega)]
    simp [List.getD, ht]

theorem IsInts.back {w : World} {ad : Addr} {n c : Nat} {zs : List Int} (h : IsInts w (.slice (some ad) n c) zs) {k : Nat} (hk : k ≤ zs.length) : IsInts w (.slice (if c = k then some ad else some (ad.add k)) (n - k) (c - k)) (zs.drop k) := by
  obtain ⟨ao, cap, e, h1, h2, h3, h4, h5, h6⟩ := h
  cases e
  have hl : (zs.drop k).length = zs.length - k := by simp
  have hm : ∀ z ∈ zs.drop k, -9223372036854775808 ≤ z ∧ z ≤ 9223372036854775807 := fun z hz => h6 z (List.mem_of_mem_drop hz)
  by_cases hc : c = k
  · rw [if_pos hc]
    exact ⟨_, _, by rw [hl], by rw [hl]; omega, by omega, by rw [hl]; omega, (fun h => by cases h), fun h => (by rw [hl] at h; omega), hm⟩
  · rw [if_neg hc]
    refine ⟨_, _, by rw [hl], by rw [hl]; omega, by omega, by rw [hl]; omega, (fun h => by cases h), fun hp => ?_, hm⟩
    rw [hl] at hp
    obtain ⟨b', off', e', hcx⟩ := h5 (by omega)
    cases e'
    refine ⟨b', off' + k, by rw [Addr.add_lit], fun t ht => ?_⟩
    rw [hl] at ht
    rw [Nat.add_assoc, hcx (k + t) (by omega)]
    simp [List.getD]

set_option maxRecDepth 100000 in
set_option maxHeartbeats 1000000 in
theorem flattened_any (n : Nod) (A : At) (u : Sl) (x : List Int) (w : World) (hn : NodeOk w n A) (hx : IsInts w u.v x) (hf : Fine x) : Calls Tryz.prog 124 #[nval n, .slice u.a u.n u.c] w (Ended w (flattenedP A x) DimsQ) := by
  obtain ⟨ux, uc, eu, c1, c2, c3⟩ := hx.sl
  obtain ⟨ua, un, uu⟩ := u
  simp only [Sl.v, Value.slice.injEq] at eu
  obtain ⟨rfl, rfl, rfl⟩ := eu
  have HX := hide hx
  have FEW := hf.few
  have FN := hide hf
  clear hx hf
  have RG := hn.int ⟨#[97, 120, 105, 115]⟩ 1 (by omega)
  have NK := hide hn
  obtain ⟨op, nam, ⟨ia, il, ic⟩, out, ⟨ao, al, cap⟩⟩ := n
  unfold nval
  simp only
  obtain ⟨w0, hw0⟩ : ∃ w0, w0 = w.alloc (.cells #[.string op, .string nam, .slice ia il ic, .string out, .slice ao al cap] 36) := ⟨_, rfl⟩
  have g0 : Hid (w.grownBy w0 none) := by show w.grownBy w0 none; rw [hw0]; exact grown_new _ _
  have hb0 := heap_alloc_new w (.cells #[.string op, .string nam, .slice ia il ic, .string out, .slice ao al cap] 36)
  rw [← hw0] at hb0
  have BX : Hid (∀ wx, w0.grownBy wx none → wx.heap[w.heap.size]? = some (.cells #[.string op, .string nam, .slice ia il ic, .string out, .slice ao al cap] 36 (0, 0))) := fun wx hg => box_kept hb0 hg
  clear hb0 hn
  have I0 := hide (nint_any ⟨op, nam, ⟨ia, il, ic⟩, out, ⟨ao, al, cap⟩⟩ A ⟨#[97, 120, 105, 115]⟩ 1 w0 (NK.out.more g0.out))
  unfold nval at I0
  simp only at I0
  obtain ⟨z, hz⟩ : ∃ z, z = A.int ⟨#[97, 120, 105, 115]⟩ 1 := ⟨_, rfl⟩
  rw [← hz] at I0 RG
  obtain ⟨y, hy⟩ : ∃ y, y = fromEndP z x.length := ⟨_, rfl⟩
  have FE := hide (fun wx => fromend_any z x.length wx (by omega) RG.1)
  rw [← hy] at FE
  have E0 : Hid (flattenedP A x = (mustP (decide (0 ≤ y ∧ y ≤ x.length))).bind (fun _ => (countP (x.take y.toNat)).bind (fun a => (countP (x.drop y.toNat)).bind (fun b => .ok [a, b])))) := by show _ = _; unfold flattenedP; rw [← hz, ← hy]; rfl
  clear hy hz
  go_enter Tryz.func124, Tryz.ntmps124
  go_wp2_with fail
  rw [← hw0]
  clear hw0
  refine I0.out.mono ?_
  rintro e w1 ⟨rfl, hg1⟩
  have G1 := hide (grown_trans g0.out hg1)
  clear hg1 I0
  by_cases h0 : 0 ≤ y
  · by_cases h1 : y ≤ x.length
    · obtain ⟨k, rfl⟩ := Int.eq_ofNat_of_zero_le h0
      have hk : k ≤ x.length := by omega
      have P1 : Hid (countP (x.take k) = .ok (prod (x.take k))) := by show _ = _; unfold countP; rw [if_pos (FN.out.take k).ok]
      have P2 : Hid (countP (x.drop k) = .ok (prod (x.drop k))) := by show _ = _; unfold countP; rw [if_pos (FN.out.drop k).ok]
      have E1 : Hid (flattenedP A x = .ok [prod (x.take k), prod (x.drop k)]) := by show _ = _; rw [E0.out, Int.toNat_natCast, P1.out, P2.out]; simp [mustP, h0, h1]; rfl
      have B1 := (FN.out.take k).le
      have B1' := (FN.out.take k).prod_pos
      have B2 := (FN.out.drop k).le
      have B2' := (FN.out.drop k).prod_pos
      have X1 := hide (HX.out.more G1.out)
      have CF := hide (fun (wx : World) (hg : w.grownBy wx none) => countof_any _ _ wx ((HX.out.front hk).more hg))
      rw [P1.out] at CF
      obtain ⟨p1, hp1⟩ : ∃ p, p = prod (x.take k) := ⟨_, rfl⟩
      obtain ⟨p2, hp2⟩ : ∃ p, p = prod (x.drop k) := ⟨_, rfl⟩
      rw [← hp1] at CF E1 B1 B1'
      rw [← hp2] at E1 B2 B2'
      go_wp2_with (first | (go_at_call 83; refine (FE.out _).mono ?_; rintro e w' ⟨rfl, rfl⟩) | (go_at_call 87; refine (must_yes _).mono ?_; rintro e w' ⟨rfl, rfl⟩) | fail)
      have hku : k ≤ uu := by omega
      have q1 : (0 : Int) ≤ (k : Int) := by omega
      have q2 : (k : Int) ≤ (uu : Int) := by omega
      have q3 : (k : Int) ≤ (x.length : Int) := by omega
      cases ua with
      | none =>
        obtain ⟨ao', cap', e, h1', h2', h3', h4', h5', h6'⟩ := HX.out
        cases e
        obtain ⟨hx0, rfl⟩ := h4' rfl
        subst hx0
        have hk0 : k = 0 := by simpa using hk
        subst hk0
        have CN := hide (fun (wx : World) => countof_any (.slice none 0 0) [] wx ⟨none, 0, rfl, Nat.le_refl _, by decide, by simp, fun _ => ⟨rfl, rfl⟩, fun h => (by simp at h), fun z hz => (by simp at hz)⟩)
        rw [show countP [] = .ok 1 from rfl] at CN
        have e1 : p1 = 1 := hp1
        have e2 : p2 = 1 := hp2
        subst e1 e2
        clear h4' h5' h6' hp1 hp2
        simp only [List.length_nil] at *
        go_region_held3 (fun _ => True) (trivial) (first | (go_at_call 89; refine (CN.out _).mono ?_; rintro e w' ⟨-, v, rfl, rfl, rfl⟩) | fail)
        go_wp2
        go_ret
        exact ended_ok E1.out (grown_trans (grown_drew G1.out) (grown_new _ _)) ⟨⟨_, 2, 2⟩, rfl, ints_new _ [1, 1] 3 (by decide) (by decide)⟩
      | some ad =>
        have CB := hide (fun (wx : World) (hg : w.grownBy wx none) => countof_any _ _ wx ((HX.out.back hk).more hg))
        rw [P2.out, ← hp2] at CB
        simp only at CF CB
        clear hp1 hp2
        by_cases huk : uu = k
        · rw [if_pos huk] at CB
          have e1 : x.length - k = 0 := by omega
          have e2 : uu - k = 0 := by omega
          have e3 : k = x.length := by omega
          have e4 : uu = x.length := by omega
          rw [e1, e2] at CB
          clear e1 e2 huk
          subst e3 e4
          go_region_held3 (fun _ => True) (trivial) (first | (go_at_call 89; have hh := done1; refine (CB.out _ (grown_drew G1.out)).mono ?_; rintro e w' ⟨-, v, rfl, rfl, rfl⟩) | (go_at_call 89; refine (CF.out _ (grown_drew G1.out)).mono ?_; rintro e w' ⟨-, v, rfl, rfl, rfl⟩; have done1 : True := trivial) | fail)
          go_wp2
          go_ret
          exact ended_ok E1.out (grown_trans (grown_drew G1.out) (grown_new _ _)) ⟨⟨_, 2, 2⟩, rfl, ints_new _ [p1, p2] 3 (by simp) (fun y hy => by simp at hy; omega)⟩
        · rw [if_neg huk] at CB
          go_region_held3 (fun _ => True) (trivial) (first | (go_at_call 89; have hh := done1; refine (CB.out _ (grown_drew G1.out)).mono ?_; rintro e w' ⟨-, v, rfl, rfl, rfl⟩) | (go_at_call 89; refine (CF.out _ (grown_drew G1.out)).mono ?_; rintro e w' ⟨-, v, rfl, rfl, rfl⟩; have done1 : True := trivial) | fail)
          go_wp2
          go_ret
          exact ended_ok E1.out (grown_trans (grown_drew G1.out) (grown_new _ _)) ⟨⟨_, 2, 2⟩, rfl, ints_new _ [p1, p2] 3 (by simp) (fun y hy => by simp at hy; omega)⟩
    · have E1 : Hid (flattenedP A x = .error 4) := by show _ = _; rw [E0.out]; simp [mustP, h0, h1]; rfl
      have b1 : decide (y ≤ (x.length : Int)) = false := by simpa using h1
      go_wp2_with (first | (go_at_call 83; refine (FE.out _).mono ?_; rintro e w' ⟨rfl, rfl⟩) | (go_at_call 87; refine (must_no _).mono ?_; rintro e w' ⟨rfl, rfl⟩))
      exact ⟨rfl, ended_err E1.out G1.out⟩
  · have E1 : Hid (flattenedP A x = .error 4) := by show _ = _; rw [E0.out]; simp [mustP, h0]; rfl
    go_wp2_with (first | (go_at_call 83; refine (FE.out _).mono ?_; rintro e w' ⟨rfl, rfl⟩) | (go_at_call 87; refine (must_no _).mono ?_; rintro e w' ⟨rfl, rfl⟩))
    exact ⟨rfl, ended_err E1.out G1.out⟩
end Go.Proofs.YtfladhogkhhlcaaGreatDoor

/- What infer makes of dims: sliced, by the walk. -/
namespace Go.Proofs.YtfladhogkhhlcaaGreatDoor
open Go.RowKit

theorem grown_drewQ {a b : World} (h : a.grownBy b none) (n : Nat) : a.grownBy (b.drewN n) none := ⟨h.os, h.tape, h.output, h.size, h.block⟩

theorem sliceL_step {x al ss es : List Int} {k : Nat} (h1 : k < al.length) (h2 : k < ss.length) (h3 : k < es.length) (dims : List Int) : sliceL x (al.drop k) (ss.drop k) (es.drop k) dims = (axisP (al.getD k 0) x.length).bind (fun axis => (mustP (decide (boundedP (ss.getD k 0) (x.getD axis 0).toNat < boundedP (es.getD k 0) (x.getD axis 0).toNat))).bind (fun _ => sliceL x (al.drop (k + 1)) (ss.drop (k + 1)) (es.drop (k + 1)) (dims.set axis (boundedP (es.getD k 0) (x.getD axis 0).toNat - boundedP (ss.getD k 0) (x.getD axis 0).toNat)))) := by
  rw [drop_step al k h1, drop_step ss k h2, drop_step es k h3]
  rfl

theorem boundedP_le (x : Int) (d : Nat) : 0 ≤ boundedP x d ∧ boundedP x d ≤ d := by
  unfold boundedP
  split <;> split at * <;> omega

set_option maxRecDepth 100000 in
set_option maxHeartbeats 1000000 in
theorem sliced_any (n : Nod) (A : At) (u : Sl) (x : List Int) (w : World) (hn : NodeOk w n A) (hx : IsInts w u.v x) (hf : Fine x) : Calls Tryz.prog 118 #[nval n, .slice u.a u.n u.c] w (Ended w (slicedP A x) DimsQ) := by
  obtain ⟨ux, uc, eu, c1, c2, c3⟩ := hx.sl
  obtain ⟨ua, un, uu⟩ := u
  simp only [Sl.v, Value.slice.injEq] at eu
  obtain ⟨rfl, rfl, rfl⟩ := eu
  have HX := hide hx
  have FEW := hf.few
  have PB : Hid (∀ z ∈ x, 1 ≤ z ∧ z ≤ 65536) := fun z hz => ⟨hf.pos z hz, hf.le_each hz⟩
  clear hx hf
  have NK := hide hn
  obtain ⟨op, nam, ⟨ia, il, ic⟩, out, ⟨ao, al, cap⟩⟩ := n
  unfold nval
  simp only
  obtain ⟨w0, hw0⟩ : ∃ w0, w0 = w.alloc (.cells #[.string op, .string nam, .slice ia il ic, .string out, .slice ao al cap] 36) := ⟨_, rfl⟩
  have g0 : Hid (w.grownBy w0 none) := by show w.grownBy w0 none; rw [hw0]; exact grown_new _ _
  have hb0 := heap_alloc_new w (.cells #[.string op, .string nam, .slice ia il ic, .string out, .slice ao al cap] 36)
  rw [← hw0] at hb0
  have BX : Hid (∀ wx, w0.grownBy wx none → wx.heap[w.heap.size]? = some (.cells #[.string op, .string nam, .slice ia il ic, .string out, .slice ao al cap] 36 (0, 0))) := fun wx hg => box_kept hb0 hg
  clear hb0 hn
  have NI := hide (fun (wx : World) (nm : ByteArray) (hg : w.grownBy wx none) => nints_any ⟨op, nam, ⟨ia, il, ic⟩, out, ⟨ao, al, cap⟩⟩ A nm ⟨none, 0, 0⟩ [] wx (NK.out.more hg) ⟨none, 0, rfl, Nat.le_refl _, by decide, by simp, fun _ => ⟨rfl, rfl⟩, fun h => (by simp at h), fun z hz => (by simp at hz)⟩)
  have NU := hide (fun (wx : World) (B r : Nat) (hg : w.grownBy wx none) (hB : IsInts wx (.slice (some ⟨B, 0, none⟩) r r) (upToP r)) => nints_any ⟨op, nam, ⟨ia, il, ic⟩, out, ⟨ao, al, cap⟩⟩ A ⟨#[97, 120, 101, 115]⟩ ⟨some ⟨B, 0, none⟩, r, r⟩ _ wx (NK.out.more hg) hB)
  have CL := hide (fun (wx : World) (hg : w.grownBy wx none) => cloneI_any ⟨ua, x.length, uu⟩ x wx (HX.out.more hg))
  unfold nval at NI NU
  simp only at NI NU CL
  obtain ⟨n0, n1, n2, n3, n4⟩ := nod_cells (n := ⟨op, nam, ⟨ia, il, ic⟩, out, ⟨ao, al, cap⟩⟩) (BX.out w0 (grown_refl _))
  go_enter Tryz.func118, Tryz.ntmps118
  go_wp2_with fail
  rw [← hw0]
  clear hw0
  go_region_held3 (fun w' => w'.cell? ⟨w.heap.size, 0, none⟩ = some (.string op) ∧ w'.cell? ⟨w.heap.size, 1, none⟩ = some (.string nam) ∧ w'.cell? ⟨w.heap.size, 2, none⟩ = some (.slice ia il ic) ∧ w'.cell? ⟨w.heap.size, 3, none⟩ = some (.string out) ∧ w'.cell? ⟨w.heap.size, 4, none⟩ = some (.slice ao al cap)) (go_keep) (first | (go_at_call 58; have hh := done1; refine (NI.out _ _ (grown_trans g0.out g1)).mono ?_; rintro e w2 ⟨es, rfl, hes, hg2⟩; have g2 : w0.grownBy w2 none := grown_trans g1 hg2; obtain ⟨n0, n1, n2, n3, n4⟩ := nod_cells (n := ⟨op, nam, ⟨ia, il, ic⟩, out, ⟨ao, al, cap⟩⟩) (BX.out w2 (g2))) | (go_at_call 58; refine (NI.out _ _ (grown_trans g0.out (grown_drew (grown_refl _)))).mono ?_; rintro e w1 ⟨ss, rfl, hss, hg1⟩; have g1 : w0.grownBy w1 none := grown_trans (grown_drew (grown_refl _)) hg1; obtain ⟨n0, n1, n2, n3, n4⟩ := nod_cells (n := ⟨op, nam, ⟨ia, il, ic⟩, out, ⟨ao, al, cap⟩⟩) (BX.out w1 (g1)); have done1 : True := trivial) | fail)
  obtain ⟨S, hS⟩ : ∃ S, S = A.ints ⟨#[115, 116, 97, 114, 116, 115]⟩ [] := ⟨_, rfl⟩
  obtain ⟨E, hE⟩ : ∃ E, E = A.ints ⟨#[101, 110, 100, 115]⟩ [] := ⟨_, rfl⟩
  rw [← hS] at hss
  rw [← hE] at hes
  have HSx := hide hS
  have HEx := hide hE
  clear hS hE
  obtain ⟨sx, sc, es1, s1, s2, s3⟩ := hss.sl
  obtain ⟨sa, sn, sv⟩ := ss
  simp only [Sl.v, Value.slice.injEq] at es1
  obtain ⟨rfl, rfl, rfl⟩ := es1
  obtain ⟨ex, ec, ee1, e1, e2, e3⟩ := hes.sl
  obtain ⟨ea, en, ev⟩ := es
  simp only [Sl.v, Value.slice.injEq] at ee1
  obtain ⟨rfl, rfl, rfl⟩ := ee1
  simp only [Sl.v] at hss hes ⊢
  have HSS := hide (hss.more hg2)
  have HES := hide hes
  have G2 := hide g2
  clear hss hes hg1 hg2 g1 g2 NI done1
  go_wp2_with fail
  go_region_held3 (fun w' => w'.cell? ⟨w.heap.size, 0, none⟩ = some (.string op) ∧ w'.cell? ⟨w.heap.size, 1, none⟩ = some (.string nam) ∧ w'.cell? ⟨w.heap.size, 2, none⟩ = some (.slice ia il ic) ∧ w'.cell? ⟨w.heap.size, 3, none⟩ = some (.string out) ∧ w'.cell? ⟨w.heap.size, 4, none⟩ = some (.slice ao al cap)) (go_keep) (first | (go_at_call 56; refine (upto_any S.length _ s3).mono ?_; rintro e w3 ⟨rfl, ho3, hg3⟩; have g3 : w0.grownBy w3 none := grown_trans (grown_drew G2.out) hg3; obtain ⟨n0, n1, n2, n3, n4⟩ := nod_cells (n := ⟨op, nam, ⟨ia, il, ic⟩, out, ⟨ao, al, cap⟩⟩) (BX.out w3 (g3))) | (go_at_call 58; refine (NU.out _ _ S.length (grown_trans g0.out g3) (by have h := ho3.ints (by rw [upToP_len]; omega) (fun z hz => by have := upToP_mem hz; omega); rw [upToP_len] at h; exact h)).mono ?_; rintro e w4 ⟨axl, rfl, hax, hg4⟩; have g4 : w0.grownBy w4 none := grown_trans g3 hg4; obtain ⟨n0, n1, n2, n3, n4⟩ := nod_cells (n := ⟨op, nam, ⟨ia, il, ic⟩, out, ⟨ao, al, cap⟩⟩) (BX.out w4 (g4))) | fail)
  obtain ⟨L, hL⟩ : ∃ L, L = A.ints ⟨#[97, 120, 101, 115]⟩ (upToP S.length) := ⟨_, rfl⟩
  rw [← hL] at hax
  obtain ⟨ax, ac, ae1, a1, a2, a3⟩ := hax.sl
  obtain ⟨aa, an, av⟩ := axl
  simp only [Sl.v, Value.slice.injEq] at ae1
  obtain ⟨rfl, rfl, rfl⟩ := ae1
  simp only [Sl.v] at hax ⊢
  have HAX := hide hax
  have G4 := hide (grown_trans g0.out g4)
  have G24 : Hid (w2.grownBy w4 none) := grown_trans (grown_drew (grown_refl _)) (grown_trans hg3 hg4)
  have AX := hide (axesof_any ⟨aa, L.length, av⟩ L x.length w4 hax (by omega))
  simp only at AX
  have E0 : Hid (slicedP A x = (mustP (decide (S.length = E.length ∧ S.length = L.length))).bind (fun _ => (axesP L x.length).bind (fun _ => sliceL x L S E x))) := by show _ = _; rw [hL, HSx.out, HEx.out]; rfl
  clear hax ho3 hg3 hg4 g3 g4 n0 n1 n2 n3 n4 NU HSx HEx hL
  by_cases l1 : S.length = E.length
  · have b1 : ((S.length : Int) == (E.length : Int)) = true := by simp [l1]
    by_cases l2 : S.length = L.length
    · have b2 : ((S.length : Int) == (L.length : Int)) = true := by simp [l2]
      have E1 : Hid (slicedP A x = (axesP L x.length).bind (fun _ => sliceL x L S E x)) := by show _ = _; rw [E0.out]; simp [mustP, l1, l2.symm.trans l1]; rfl
      have L1 := hide l1
      have L2 := hide l2
      clear l1 l2
      cases hk : axesP L x.length with
      | error c =>
        rw [hk] at AX
        have E2 : Hid (slicedP A x = .error c) := by show _ = _; rw [E1.out, hk]; rfl
        clear hk
        go_wp2_with (first | (go_at_call 87; refine (must_yes _).mono ?_; rintro e w' ⟨rfl, rfl⟩) | (go_at_call 111; refine AX.out.mono ?_; rintro e w' ⟨hg, rfl⟩) | fail)
        exact ⟨rfl, ended_err E2.out (grown_trans G4.out hg)⟩
      | ok gone =>
        rw [hk] at AX
        have ALL := hide (axesP_all hk)
        have E2 : Hid (slicedP A x = sliceL x L S E x) := by show _ = _; rw [E1.out, hk]; rfl
        clear hk
        go_wp2_with (first | (go_at_call 87; refine (must_yes _).mono ?_; rintro e w' ⟨rfl, rfl⟩) | (go_at_call 111; refine AX.out.mono ?_; rintro e w5 ⟨hg5, v, rfl, B, rfl, -, -⟩) | (go_at_call 80; refine (CL.out w5 (grown_trans G4.out hg5)).mono ?_; rintro e w6 ⟨⟨qa, qn, qc⟩, rfl, ho, hg6⟩; simp only) | fail)
        have G5 := hide (grown_trans G4.out hg5)
        have G6 := hide (grown_trans (grown_trans G4.out hg5) hg6)
        have G46 := hide (grown_trans hg5 hg6)
        have HO := hide (ho.base_le hg5.size)
        clear ho hg5 hg6 b1 b2 CL AX
        go_loopw [44] (fun i wr => ∃ (k : Nat) (D : List Int), k ≤ L.length ∧ i = .int .i64 k ∧ Owns wr w4.heap.size (.slice qa qn qc) D ∧ D.length = x.length ∧ sliceL x (L.drop k) (S.drop k) (E.drop k) D = sliceL x L S E x ∧ (∀ z ∈ D, 0 ≤ z ∧ z ≤ 65536) ∧ w4.grownBy wr none) (fun i _ => L.length - (intOf i).toNat)
        case atStart => exact ⟨0, x, Nat.zero_le _, rfl, HO.out, rfl, by simp, fun z hz => by have := PB.out z hz; omega, G46.out⟩
        case round =>
          obtain ⟨k, D, hk, rfl, ho, hD, hst, hbd, hg⟩ := hrel
          have HG := hide hg
          have HO1 := hide ho
          by_cases hkl : k < L.length
          · obtain ⟨b, off, rfl, hc⟩ := HAX.out.get hkl
            have hcell : wr.cell? ⟨b, off + k, none⟩ = some (.int .i64 (L.getD k 0)) := cell_still (hc k hkl) hg
            have hwfa := HAX.out.wf (L.getD k 0) (by simp [List.getD, hkl])
            have hsl : k < S.length := by have := L2.out; omega
            have hel : k < E.length := by have := L1.out; have := L2.out; omega
            obtain ⟨b', off', rfl, hcs⟩ := HSS.out.get hsl
            have hcs2 : wr.cell? ⟨b', off' + k, none⟩ = some (.int .i64 (S.getD k 0)) := cell_still (hcs k hsl) (grown_trans G24.out hg)
            have hwfs := HSS.out.wf (S.getD k 0) (by simp [List.getD, hsl])
            obtain ⟨b'', off'', rfl, hce⟩ := HES.out.get hel
            have hce2 : wr.cell? ⟨b'', off'' + k, none⟩ = some (.int .i64 (E.getD k 0)) := cell_still (hce k hel) (grown_trans G24.out hg)
            have hwfe := HES.out.wf (E.getD k 0) (by simp [List.getD, hel])
            obtain ⟨i, hi⟩ := ALL.out (L.getD k 0) (by simp [List.getD, hkl])
            have hil := axisO_lt hi
            obtain ⟨b3, off3, rfl, hcx⟩ := HX.out.get hil
            have hcx2 : wr.cell? ⟨b3, off3 + i, none⟩ = some (.int .i64 (x.getD i 0)) := cell_still (hcx i hil) (grown_trans G4.out hg)
            have hbx := PB.out (x.getD i 0) (by simp [List.getD, hil])
            rw [sliceL_step hkl hsl hel] at hst
            obtain ⟨a, ha0⟩ : ∃ a, a = L.getD k 0 := ⟨_, rfl⟩
            obtain ⟨s, hs0⟩ : ∃ s, s = S.getD k 0 := ⟨_, rfl⟩
            obtain ⟨t, ht0⟩ : ∃ t, t = E.getD k 0 := ⟨_, rfl⟩
            obtain ⟨d, hd0⟩ := Int.eq_ofNat_of_zero_le (show 0 ≤ x.getD i 0 by omega)
            have hax : axisP a x.length = .ok i := by unfold axisP; rw [ha0, hi]
            rw [← ha0] at hcell hwfa hst
            rw [← hs0] at hcs2 hwfs hst
            rw [← ht0] at hce2 hwfe hst
            rw [hax] at hst
            rw [hd0] at hcx2 hbx
            have hst2 : (mustP (decide (boundedP s d < boundedP t d))).bind (fun _ => sliceL x (L.drop (k + 1)) (S.drop (k + 1)) (E.drop (k + 1)) (D.set i (boundedP t d - boundedP s d))) = sliceL x L S E x := by
              rw [← hst]
              show _ = (mustP _).bind _
              rw [hd0, Int.toNat_natCast]
            have AO := hide (fun wx => axisof_any a x.length wx (by omega) hwfa.1)
            rw [hax] at AO
            have l1 := boundedP_le s d
            have l2 := boundedP_le t d
            obtain ⟨g, gcap, eo, hbg, hgl, hlc, hcm⟩ := ho.shape (by rw [hD]; omega)
            simp only [Value.slice.injEq] at eo
            obtain ⟨rfl, rfl, rfl⟩ := eo
            have HDD := hide hD
            rw [hD] at hlc ⊢
            clear hD
            clear hc hcs hce hcx ha0 hs0 ht0 hd0 hst hi hax
            go_wp2_with (first | (go_at_call 119; refine (AO.out _).mono ?_; rintro e w' ⟨-, v, rfl, rfl, rfl⟩) | fail)
            go_quiet (first | (go_at_call 62; refine (bounded_any _ _ _ (by omega) (by omega)).mono ?_; rintro e w' ⟨rfl, rfl⟩; exact ⟨rfl, _, rfl⟩) | fail)
            have gq := grown_drewQ (grown_refl wr) nq
            have hoq := ho.new gq
            obtain ⟨cc, fc⟩ := hoq.cells (k := i) (by rw [HDD.out]; exact hil)
            have hq := grown_trans hg gq
            obtain ⟨wq, hwq⟩ : ∃ wq, wq = wr.drewN nq := ⟨_, rfl⟩
            rw [← hwq] at hoq cc fc hq ⊢
            clear hwq gq hcell hcs2 hce2 hcx2
            obtain ⟨p, hp0⟩ : ∃ p, p = boundedP s d := ⟨_, rfl⟩
            obtain ⟨q, hq0⟩ : ∃ q, q = boundedP t d := ⟨_, rfl⟩
            rw [← hp0] at hst2 l1 ⊢
            rw [← hq0] at hst2 l2 ⊢
            clear hp0 hq0
            by_cases hpq : p < q
            · obtain ⟨so, sg⟩ := hoq.put i (q - p) (by omega)
              have SO := hide so
              have SG := hide (grown_drop hq sg hbg)
              have HST : Hid (sliceL x (L.drop (k + 1)) (S.drop (k + 1)) (E.drop (k + 1)) (D.set i (q - p)) = sliceL x L S E x) := by show _ = _; rw [← hst2]; simp [mustP, hpq]; rfl
              have HB : Hid (∀ z ∈ D.set i (q - p), 0 ≤ z ∧ z ≤ 65536) := fun z hz => by
                rcases List.mem_or_eq_of_mem_set hz with h1 | rfl
                · exact hbd z h1
                · omega
              clear hst2 hbd ho hoq hg hq so sg
              go_wp2_with (first | (go_at_call 87; refine (must_yes _).mono ?_; rintro e w' ⟨rfl, rfl⟩) | fail)
              go_roundw
              case rel => exact ⟨k + 1, _, by omega, by go_num, by have h := SO.out; rw [HDD.out] at h; exact h, by rw [List.length_set]; exact HDD.out, HST.out, HB.out, SG.out⟩
              case measure => simp [intOf]; omega
            · have E3 : Hid (slicedP A x = .error 4) := by show _ = _; rw [E2.out, ← hst2]; simp [mustP, hpq]; rfl
              have HQ := hide hq
              clear hst2 hbd ho hoq hg hq
              go_wp2_with (first | (go_at_call 87; refine (must_no _).mono ?_; rintro e w' ⟨rfl, rfl⟩) | fail)
              exact ⟨rfl, ended_err E3.out (grown_trans G4.out HQ.out)⟩
          · have E3 : Hid (slicedP A x = .ok D) := by
              show _ = _
              rw [E2.out, ← hst, List.drop_of_length_le (l := L) (by omega)]
              simp [sliceL]
            clear hst hbd ho hg
            go_wp2
            go_ret
            exact ended_ok E3.out (grown_trans G4.out HG.out) ⟨⟨qa, qn, qc⟩, rfl, HO1.out.ints⟩
    · have b2 : ((S.length : Int) == (L.length : Int)) = false := by simpa using (fun h => l2 (by omega) : ¬ (S.length : Int) = L.length)
      have E1 : Hid (slicedP A x = .error 4) := by show _ = _; rw [E0.out]; simp [mustP, l2]; rfl
      clear l1 l2
      go_wp2_with (first | (go_at_call 87; refine (must_no _).mono ?_; rintro e w' ⟨rfl, rfl⟩) | fail)
      exact ⟨rfl, ended_err E1.out G4.out⟩
  · have b1 : ((S.length : Int) == (E.length : Int)) = false := by simpa using (fun h => l1 (by omega) : ¬ (S.length : Int) = E.length)
    have E1 : Hid (slicedP A x = .error 4) := by show _ = _; rw [E0.out]; simp [mustP, l1]; rfl
    clear l1
    go_wp2_with (first | (go_at_call 87; refine (must_no _).mono ?_; rintro e w' ⟨rfl, rfl⟩) | fail)
    exact ⟨rfl, ended_err E1.out G4.out⟩
end Go.Proofs.YtfladhogkhhlcaaGreatDoor

/- Types: all alike, by the walk. -/
namespace Go.Proofs.YtfladhogkhhlcaaGreatDoor
open Go.RowKit

/-- Values that come in: what their lists hold. -/
structure ValsIn (w : World) (v : Value) (vs : List (Val × List Int)) : Prop where
  vals : IsVals w v (vs.map (·.1))
  dims : ∀ p ∈ vs, IsInts w p.1.dv.v p.2

theorem ValsIn.more {w w' : World} {v : Value} {vs : List (Val × List Int)} (h : ValsIn w v vs) (hg : w.grownBy w' none) : ValsIn w' v vs := ⟨h.vals.more hg, fun p hp => (h.dims p hp).more hg⟩

/-- The type that all have, if they are alike. -/
def sameP : List Int → R Int
  | [] => .ok 0
  | t :: l => if l.all (fun s => s == t) = true then .ok t else .error 4

set_option maxRecDepth 100000 in
set_option maxHeartbeats 1000000 in
theorem sametype_any (u : Sl) (vs : List (Val × List Int)) (w : World) (hv : ValsIn w u.v vs) (hp : 0 < vs.length) (hf : vs.length ≤ 1000000) : Calls Tryz.prog 108 #[.slice u.a u.n u.c] w (Ended w (sameP (vs.map (·.1.ty))) fun t v _ => v = .int .i64 t) := by
  obtain ⟨xa, xc, e1, p1, p2, p3⟩ := hv.vals.form
  rw [List.length_map] at e1 p1 p3
  obtain ⟨ua, un, uc⟩ := u
  simp only [Sl.v, Value.slice.injEq] at e1
  obtain ⟨rfl, rfl, rfl⟩ := e1
  have HV := hide hv.vals
  have hl : (vs.map (·.1)).length = vs.length := by simp
  obtain ⟨b, off, rfl⟩ := hv.vals.addr (k := 0) (by rw [hl]; exact hp)
  obtain ⟨z0, z1, z2⟩ := hv.vals.val 0 (by rw [hl]; exact hp)
  rw [Nat.zero_mul, Nat.add_zero, List.getElem_map] at z1
  obtain ⟨T, hT⟩ : ∃ T, T = vs[0].1.ty := ⟨_, rfl⟩
  rw [← hT] at z1
  have Z1 := hide z1
  have HT := hide hT
  clear hv z0 z1 z2 hT
  go_enter Tryz.func108, Tryz.ntmps108
  go_wp2
  go_loopw [7] (fun i wr => ∃ k : Nat, k ≤ vs.length ∧ i = .int .i64 k ∧ (∀ j (hj : j < vs.length), j < k → vs[j].1.ty = T) ∧ w.grownBy wr none) (fun i _ => vs.length - (intOf i).toNat)
  case atStart => exact ⟨0, Nat.zero_le _, rfl, fun j hj h => absurd h (by omega), grown_refl _⟩
  case round =>
    obtain ⟨k, hk, rfl, hall, hg⟩ := hrel
    have HA := hide hall
    have HG := hide hg
    by_cases hkl : k < vs.length
    · have h2 := HV.out.more hg
      obtain ⟨y0, y1, y2⟩ := h2.val k (by rw [hl]; exact hkl)
      rw [List.getElem_map] at y0 y1 y2
      have z1 : wr.cell? ⟨b, off + 1, none⟩ = some (.int .i64 T) := cell_still Z1.out hg
      have HK : Hid (vs[k].1.ty = vs[k].1.ty) := rfl
      obtain ⟨v, hvv⟩ : ∃ v, v = vs[k].1 := ⟨_, rfl⟩
      rw [← hvv] at y0 y1 y2 HK
      obtain ⟨vn, vt, ⟨da, dn, dc⟩⟩ := v
      simp only at y0 y1 y2
      have HVV := hide hvv
      obtain ⟨w1, hw1⟩ : ∃ w1, w1 = wr.alloc (.cells #[.string vn, .int .i64 vt, .slice da dn dc] 48) := ⟨_, rfl⟩
      have g1 : Hid (w.grownBy w1 none) := by show w.grownBy w1 none; rw [hw1]; exact grown_trans hg (grown_new _ _)
      have hb1 := heap_alloc_new wr (.cells #[.string vn, .int .i64 vt, .slice da dn dc] 48)
      rw [← hw1] at hb1
      have q1 : w1.cell? ⟨wr.heap.size, 1, none⟩ = some (.int .i64 vt) := (cell_of_row _ _ 1 _ _ (0, 0) hb1).trans rfl
      have z1' : w1.cell? ⟨b, off + 1, none⟩ = some (.int .i64 T) := cell_still Z1.out g1.out
      clear hb1 hvv hall hg h2
      go_wp2_with fail
      rw [← hw1]
      clear hw1 y0 y1 y2 z1
      have hp' : (0 : Int) < (vs.length : Int) := by omega
      by_cases hd : vt = T
      · have bd : (vt == T) = true := by simp [hd]
        go_quiet (first | (go_at_call 87; refine (must_yes _).mono ?_; rintro e w' ⟨rfl, rfl⟩; exact ⟨rfl, _, rfl⟩) | fail)
        have HKT : Hid (∀ j (hj : j < vs.length), j < k + 1 → vs[j].1.ty = T) := fun j hj h => by
          rcases lt_succ_cases h with h | rfl
          · exact HA.out j hj h
          · rw [← HVV.out]; exact hd
        clear hd bd
        go_wp2_with fail
        go_roundw
        case rel => exact ⟨k + 1, by omega, by go_num, HKT.out, ⟨g1.out.os, g1.out.tape, g1.out.output, g1.out.size, g1.out.block⟩⟩
        case measure => simp [intOf]; omega
      · have bd : (vt == T) = false := by simpa using hd
        have E : Hid (sameP (vs.map (·.1.ty)) = .error 4) := by
          show _ = _
          cases vs with
          | nil => simp at hp
          | cons p l =>
            have hT2 : T = p.1.ty := HT.out
            simp only [List.map_cons, sameP]
            rw [if_neg]
            intro h
            rw [List.all_eq_true] at h
            cases k with
            | zero => exact hd (by have := HVV.out; simp at this; rw [hT2, ← this])
            | succ k =>
              have h3 : k < l.length := by simpa using hkl
              have := h (l[k].1.ty) (List.mem_map.2 ⟨l[k], List.getElem_mem h3, rfl⟩)
              refine hd ?_
              have h4 := HVV.out
              simp only [List.getElem_cons_succ] at h4
              rw [hT2, ← beq_iff_eq.1 this, ← h4]
        clear hd
        refine wp_region_held_drew (S := (fun w' => w'.cell? ⟨wr.heap.size, 1, none⟩ = some (.int .i64 vt) ∧ w'.cell? ⟨b, off + 1, none⟩ = some (.int .i64 T))) (by kernel_rfl) (by go_keep) (fun hHeld => ?_)
        refine wpAnyH_take (i := 0) (v := ?_) rfl (by kernel_rfl) (by kernel_rfl) (by kernel_rfl) (fun _ _ _ h => h) (Or.inl ⟨by rfl, ?_⟩) (by assumption) ?_
        rotate_left 1
        · (intro w hSw; (try dsimp only at hSw); go_simp; (try with_reducible rfl))
        try simp only [Act.put]
        refine wpAnyH_take (i := 1) (v := ?_) rfl (by kernel_rfl) (by kernel_rfl) (by kernel_rfl) (fun _ _ _ h => h) (Or.inl ⟨by rfl, ?_⟩) (by assumption) ?_
        rotate_left 1
        · (intro w hSw; (try dsimp only at hSw); go_simp; (try with_reducible rfl))
        try simp only [Act.put]
        refine wpAnyH_take (i := 2) (v := ?_) rfl (by kernel_rfl) (by kernel_rfl) (by kernel_rfl) (fun _ _ _ h => h) (Or.inl ⟨by rfl, ?_⟩) (by assumption) ?_
        rotate_left 1
        · (intro w hSw; (try dsimp only at hSw); go_simp; (try with_reducible rfl))
        try simp only [Act.put]
        refine wpAnyH_take (i := 3) (v := ?_) rfl (by kernel_rfl) (by kernel_rfl) (by kernel_rfl) (fun _ _ _ h => h) (Or.inl ⟨by rfl, ?_⟩) (by assumption) ?_
        rotate_left 1
        · (intro w hSw; (try dsimp only at hSw); go_simp; (try with_reducible rfl))
        try simp only [Act.put]
        refine wpAnyH_take (i := 4) (v := ?_) rfl (by kernel_rfl) (by kernel_rfl) (by kernel_rfl) (fun _ _ _ h => h) (Or.inl ⟨by rfl, ?_⟩) (by assumption) ?_
        rotate_left 1
        · (intro w hSw; (try dsimp only at hSw); go_simp; (try with_reducible rfl))
        try simp only [Act.put]
        refine wpAnyH_take (i := 5) (v := ?_) rfl (by kernel_rfl) (by kernel_rfl) (by kernel_rfl) (fun _ _ _ h => h) (Or.inl ⟨by rfl, ?_⟩) (by assumption) ?_
        rotate_left 1
        · (intro w hSw; (try dsimp only at hSw); go_simp; (try with_reducible rfl))
        try simp only [Act.put]
        refine wpAnyH_take (i := 6) (v := ?_) rfl (by kernel_rfl) (by kernel_rfl) (by kernel_rfl) (fun _ _ _ h => h) (Or.inl ⟨by rfl, ?_⟩) (by assumption) ?_
        rotate_left 1
        · (intro w hSw; (try dsimp only at hSw); go_simp; (try with_reducible rfl))
        try simp only [Act.put]
        refine wpAnyH_ready (rs := [7]) (by kernel_rfl) (by simp) ?_
        refine AllReadyH.cons rfl (fun K hK => ?_) AllReadyH.nil
        go_simp
        refine (must_no _).mono ?_
        rintro e wy ⟨rfl, rfl⟩; exact ⟨rfl, ended_err E.out (grown_drew g1.out)⟩
    · have E : Hid (sameP (vs.map (·.1.ty)) = .ok T) := by
        show _ = _
        cases vs with
        | nil => simp at hp
        | cons p l =>
          have hT2 : T = p.1.ty := HT.out
          simp only [List.map_cons, sameP]
          rw [if_pos, hT2]
          rw [List.all_eq_true]
          intro s hs
          obtain ⟨q, hq, rfl⟩ := List.mem_map.1 hs
          obtain ⟨j, hj, rfl⟩ := List.mem_iff_getElem.1 hq
          have := HA.out (j + 1) (by simpa using hj) (by simp at hkl ⊢; omega)
          simp only [List.getElem_cons_succ] at this
          simp [this, hT2]
      have z1 : wr.cell? ⟨b, off + 1, none⟩ = some (.int .i64 T) := cell_still Z1.out hg
      have hp' : (0 : Int) < (vs.length : Int) := by omega
      clear hall hg
      go_wp2
      go_ret
      exact ended_ok E.out HG.out rfl
end Go.Proofs.YtfladhogkhhlcaaGreatDoor

/- Of which type a node makes its value, an operator at a time (mkITy.py). -/
namespace Go.Proofs.YtfladhogkhhlcaaGreatDoor
open Go.RowKit

/-- The cells of a value in a list. -/
theorem ValsIn.at {w : World} {b off n c : Nat} {vs : List (Val × List Int)} (h : ValsIn w (.slice (some ⟨b, off, none⟩) n c) vs) (k : Nat) (hk : k < vs.length) : w.cell? ⟨b, off + k * 3 + 1, none⟩ = some (.int .i64 (vs[k].1.ty)) ∧ w.cell? ⟨b, off + k * 3 + 2, none⟩ = some (.slice vs[k].1.dv.a vs[k].1.dv.n vs[k].1.dv.c) := by
  obtain ⟨-, h1, h2⟩ := h.vals.val k (by rw [List.length_map]; exact hk)
  rw [List.getElem_map] at h1 h2
  exact ⟨h1, h2⟩

theorem sameP_typ {ts : List Int} {t : Int} (h : sameP ts = .ok t) (hp : 0 < ts.length) (ht : ∀ s ∈ ts, isTypeP s = true) : isTypeP t = true := by
  cases ts with
  | nil => simp at hp
  | cons a l =>
    by_cases hc : l.all (fun s => s == a) = true
    · have e : sameP (a :: l) = .ok a := by simp only [sameP]; rw [if_pos hc]
      rw [e] at h
      cases h
      exact ht t (by simp)
    · have e : sameP (a :: l) = .error 4 := by simp only [sameP]; rw [if_neg hc]
      rw [e] at h
      cases h

def tysOf (vs : List (Val × List Int)) : List Int := vs.map (·.1.ty)

set_option maxRecDepth 100000 in
set_option maxHeartbeats 40000000 in
theorem type_same (n : Nod) (A : At) (u : Sl) (vs : List (Val × List Int)) (w : World) (hop : n.op ∈ ([⟨#[67, 111, 110, 99, 97, 116]⟩, ⟨#[82, 101, 115, 104, 97, 112, 101]⟩, ⟨#[69, 120, 112, 97, 110, 100]⟩, ⟨#[84, 114, 97, 110, 115, 112, 111, 115, 101]⟩, ⟨#[83, 108, 105, 99, 101]⟩, ⟨#[83, 113, 117, 101, 101, 122, 101]⟩, ⟨#[85, 110, 115, 113, 117, 101, 101, 122, 101]⟩, ⟨#[70, 108, 97, 116, 116, 101, 110]⟩] : List ByteArray)) (hn : NodeOk w n A) (hv : ValsIn w u.v vs) (hp : 0 < vs.length) (hf : vs.length ≤ 1000000) (ht : ∀ s ∈ tysOf vs, isTypeP s = true) : Calls Tryz.prog 90 #[nval n, .slice u.a u.n u.c] w (Ended w (sameP (tysOf vs)) fun t v _ => v = .int .i64 t) := by
  obtain ⟨xa, xc, e1, p1, p2, p3⟩ := hv.vals.form
  rw [List.length_map] at e1 p1 p3
  obtain ⟨ua, un, uc⟩ := u
  simp only [Sl.v, Value.slice.injEq] at e1
  obtain ⟨rfl, rfl, rfl⟩ := e1
  have HV := hide hv
  have HT := hide ht
  clear hv ht
  have NK := hide hn
  obtain ⟨op, nam, ⟨ia, il, ic⟩, out, ⟨ao, al, cap⟩⟩ := n
  unfold nval
  simp only
  obtain ⟨w0, hw0⟩ : ∃ w0, w0 = w.alloc (.cells #[.string op, .string nam, .slice ia il ic, .string out, .slice ao al cap] 36) := ⟨_, rfl⟩
  have g0 : Hid (w.grownBy w0 none) := by show w.grownBy w0 none; rw [hw0]; exact grown_new _ _
  have hb0 := heap_alloc_new w (.cells #[.string op, .string nam, .slice ia il ic, .string out, .slice ao al cap] 36)
  rw [← hw0] at hb0
  have BX : Hid (∀ wx, w0.grownBy wx none → wx.heap[w.heap.size]? = some (.cells #[.string op, .string nam, .slice ia il ic, .string out, .slice ao al cap] 36 (0, 0))) := fun wx hg => box_kept hb0 hg
  clear hb0 hn
  simp only at hop
  have SM := hide (sametype_any ⟨ua, vs.length, uc⟩ vs w0 (HV.out.more g0.out) hp hf)
  simp only at SM
  have HK : Hid (tysOf vs = vs.map (·.1.ty)) := rfl
  simp only [List.mem_cons, List.not_mem_nil, or_false] at hop
  rcases hop with rfl | rfl | rfl | rfl | rfl | rfl | rfl | rfl
  all_goals
    go_enter Tryz.func90, Tryz.ntmps90
    go_wp2_with fail
    rw [← hw0]
    clear hw0
    cases hk : sameP (vs.map (·.1.ty)) with
    | error c =>
      rw [hk] at SM
      have E : Hid (sameP (tysOf vs) = .error c) := hk
      clear hk
      refine SM.out.mono ?_
      rintro e w' ⟨hg, rfl⟩
      exact ⟨rfl, ended_err E.out (grown_trans g0.out hg)⟩
    | ok t =>
      rw [hk] at SM
      have E : Hid (sameP (tysOf vs) = .ok t) := hk
      clear hk
      refine SM.out.mono ?_
      rintro e w' ⟨hg, v, rfl, rfl⟩
      go_wp2
      go_ret
      exact ended_ok E.out (grown_trans g0.out hg) rfl

set_option maxRecDepth 100000 in
set_option maxHeartbeats 40000000 in
theorem type_float (n : Nod) (A : At) (u : Sl) (vs : List (Val × List Int)) (w : World) (hop : n.op ∈ ([⟨#[67, 108, 105, 112]⟩, ⟨#[83, 111, 102, 116, 109, 97, 120]⟩, ⟨#[82, 101, 100, 117, 99, 101, 77, 101, 97, 110]⟩, ⟨#[80, 97, 100]⟩, ⟨#[77, 97, 116, 77, 117, 108]⟩, ⟨#[71, 101, 109, 109]⟩, ⟨#[67, 111, 110, 118]⟩, ⟨#[77, 97, 120, 80, 111, 111, 108]⟩, ⟨#[65, 118, 101, 114, 97, 103, 101, 80, 111, 111, 108]⟩, ⟨#[71, 108, 111, 98, 97, 108, 65, 118, 101, 114, 97, 103, 101, 80, 111, 111, 108]⟩, ⟨#[66, 97, 116, 99, 104, 78, 111, 114, 109, 97, 108, 105, 122, 97, 116, 105, 111, 110]⟩] : List ByteArray)) (hn : NodeOk w n A) (hv : ValsIn w u.v vs) (hp : 0 < vs.length) (hf : vs.length ≤ 1000000) (ht : ∀ s ∈ tysOf vs, isTypeP s = true) : Calls Tryz.prog 90 #[nval n, .slice u.a u.n u.c] w (Ended w ((sameP (tysOf vs)).bind (fun t => (mustP (t == 1)).bind (fun _ => .ok (1 : Int)))) fun t v _ => v = .int .i64 t) := by
  obtain ⟨xa, xc, e1, p1, p2, p3⟩ := hv.vals.form
  rw [List.length_map] at e1 p1 p3
  obtain ⟨ua, un, uc⟩ := u
  simp only [Sl.v, Value.slice.injEq] at e1
  obtain ⟨rfl, rfl, rfl⟩ := e1
  have HV := hide hv
  have HT := hide ht
  clear hv ht
  have NK := hide hn
  obtain ⟨op, nam, ⟨ia, il, ic⟩, out, ⟨ao, al, cap⟩⟩ := n
  unfold nval
  simp only
  obtain ⟨w0, hw0⟩ : ∃ w0, w0 = w.alloc (.cells #[.string op, .string nam, .slice ia il ic, .string out, .slice ao al cap] 36) := ⟨_, rfl⟩
  have g0 : Hid (w.grownBy w0 none) := by show w.grownBy w0 none; rw [hw0]; exact grown_new _ _
  have hb0 := heap_alloc_new w (.cells #[.string op, .string nam, .slice ia il ic, .string out, .slice ao al cap] 36)
  rw [← hw0] at hb0
  have BX : Hid (∀ wx, w0.grownBy wx none → wx.heap[w.heap.size]? = some (.cells #[.string op, .string nam, .slice ia il ic, .string out, .slice ao al cap] 36 (0, 0))) := fun wx hg => box_kept hb0 hg
  clear hb0 hn
  simp only at hop
  have SM := hide (sametype_any ⟨ua, vs.length, uc⟩ vs w0 (HV.out.more g0.out) hp hf)
  simp only at SM
  obtain ⟨X, hX⟩ : ∃ X, X = (sameP (tysOf vs)).bind (fun t => (mustP (t == 1)).bind (fun _ => .ok (1 : Int))) := ⟨_, rfl⟩
  have E0 : Hid (X = (sameP (vs.map (·.1.ty))).bind (fun t => (mustP (t == 1)).bind (fun _ => .ok (1 : Int)))) := hX
  rw [← hX]
  clear hX
  simp only [List.mem_cons, List.not_mem_nil, or_false] at hop
  rcases hop with rfl | rfl | rfl | rfl | rfl | rfl | rfl | rfl | rfl | rfl | rfl
  all_goals
    go_enter Tryz.func90, Tryz.ntmps90
    go_wp2_with fail
    rw [← hw0]
    clear hw0
    cases hk : sameP (vs.map (·.1.ty)) with
    | error c =>
      rw [hk] at SM
      have E : Hid (X = .error c) := by show _ = _; rw [E0.out, hk]; rfl
      clear hk
      refine SM.out.mono ?_
      rintro e w' ⟨hg, rfl⟩
      exact ⟨rfl, ended_err E.out (grown_trans g0.out hg)⟩
    | ok t =>
      rw [hk] at SM
      have E : Hid (X = (mustP (t == 1)).bind (fun _ => .ok (1 : Int))) := by show _ = _; rw [E0.out, hk]; rfl
      clear hk
      refine SM.out.mono ?_
      rintro e w' ⟨hg, v, rfl, rfl⟩
      cases h1 : (t == 1) with
      | true =>
        have E2 : Hid (X = .ok (1 : Int)) := by show _ = _; rw [E.out, h1]; rfl
        go_wp2_with (first | (go_at_call 87; refine (must_yes _).mono ?_; rintro e w'' ⟨rfl, rfl⟩) | fail)
        go_ret
        exact ended_ok E2.out (grown_trans g0.out hg) rfl
      | false =>
        have E2 : Hid (X = .error 4) := by show _ = _; rw [E.out, h1]; rfl
        go_wp2_with (first | (go_at_call 87; refine (must_no _).mono ?_; rintro e w'' ⟨rfl, rfl⟩) | fail)
        exact ⟨rfl, ended_err E2.out (grown_trans g0.out hg)⟩

set_option maxRecDepth 100000 in
set_option maxHeartbeats 40000000 in
theorem type_two (n : Nod) (A : At) (u : Sl) (vs : List (Val × List Int)) (w : World) (hop : n.op ∈ ([⟨#[65, 100, 100]⟩, ⟨#[83, 117, 98]⟩, ⟨#[77, 117, 108]⟩, ⟨#[68, 105, 118]⟩, ⟨#[77, 97, 120]⟩, ⟨#[77, 105, 110]⟩, ⟨#[65, 110, 100]⟩, ⟨#[79, 114]⟩, ⟨#[88, 111, 114]⟩] : List ByteArray)) (hn : NodeOk w n A) (hv : ValsIn w u.v vs) (hl : vs.length = 2) (hf : vs.length ≤ 1000000) (ht : ∀ s ∈ tysOf vs, isTypeP s = true) : Calls Tryz.prog 90 #[nval n, .slice u.a u.n u.c] w (Ended w ((sameP (tysOf vs)).bind (fun t => (mustP (twoOK n.op.toList t)).bind (fun _ => .ok t))) fun t v _ => v = .int .i64 t) := by
  obtain ⟨xa, xc, e1, p1, p2, p3⟩ := hv.vals.form
  rw [List.length_map] at e1 p1 p3
  obtain ⟨ua, un, uc⟩ := u
  simp only [Sl.v, Value.slice.injEq] at e1
  obtain ⟨rfl, rfl, rfl⟩ := e1
  have HV := hide hv
  have HT := hide ht
  clear hv ht
  have NK := hide hn
  obtain ⟨op, nam, ⟨ia, il, ic⟩, out, ⟨ao, al, cap⟩⟩ := n
  unfold nval
  simp only
  obtain ⟨w0, hw0⟩ : ∃ w0, w0 = w.alloc (.cells #[.string op, .string nam, .slice ia il ic, .string out, .slice ao al cap] 36) := ⟨_, rfl⟩
  have g0 : Hid (w.grownBy w0 none) := by show w.grownBy w0 none; rw [hw0]; exact grown_new _ _
  have hb0 := heap_alloc_new w (.cells #[.string op, .string nam, .slice ia il ic, .string out, .slice ao al cap] 36)
  rw [← hw0] at hb0
  have BX : Hid (∀ wx, w0.grownBy wx none → wx.heap[w.heap.size]? = some (.cells #[.string op, .string nam, .slice ia il ic, .string out, .slice ao al cap] 36 (0, 0))) := fun wx hg => box_kept hb0 hg
  clear hb0 hn
  simp only at hop
  have hp : 0 < vs.length := by omega
  have SM := hide (sametype_any ⟨ua, vs.length, uc⟩ vs w0 (HV.out.more g0.out) hp hf)
  simp only at SM
  have b2 : ((vs.length : Int) == 2) = true := by rw [hl]; decide
  have HM : op.toList ∈ names2 := by
    simp only [List.mem_cons, List.not_mem_nil, or_false] at hop
    rw [bytes_toList]
    rcases hop with rfl | rfl | rfl | rfl | rfl | rfl | rfl | rfl | rfl <;> decide
  have MU0 := hide (fun (t : Int) (htt : isTypeP t = true) (wx : World) => musttwo_any op t HM htt wx)
  have BX2 := hide (fun (wx : World) (hx : w0.grownBy wx none) => nod_cells (n := ⟨op, nam, ⟨ia, il, ic⟩, out, ⟨ao, al, cap⟩⟩) (BX.out wx hx))
  simp only at BX2
  obtain ⟨L, hL⟩ : ∃ L, L = op.toList := ⟨_, rfl⟩
  rw [← hL] at MU0 ⊢
  obtain ⟨X, hX⟩ : ∃ X, X = (sameP (tysOf vs)).bind (fun t => (mustP (twoOK L t)).bind (fun _ => .ok t)) := ⟨_, rfl⟩
  have E0 : Hid (X = (sameP (vs.map (·.1.ty))).bind (fun t => (mustP (twoOK L t)).bind (fun _ => .ok t))) := hX
  rw [← hX]
  clear hl HM hL hX BX
  simp only [List.mem_cons, List.not_mem_nil, or_false] at hop
  rcases hop with rfl | rfl | rfl | rfl | rfl | rfl | rfl | rfl | rfl
  all_goals
    go_enter Tryz.func90, Tryz.ntmps90
    go_wp2_with fail
    rw [← hw0]
    clear hw0
    cases hk : sameP (vs.map (·.1.ty)) with
    | error c =>
      rw [hk] at SM
      have E : Hid (X = .error c) := by show _ = _; rw [E0.out, hk]; rfl
      clear hk
      refine SM.out.mono ?_
      rintro e w' ⟨hg, rfl⟩
      exact ⟨rfl, ended_err E.out (grown_trans g0.out hg)⟩
    | ok t =>
      have htt := sameP_typ hk (by simpa using hp) HT.out
      rw [hk] at SM
      have E : Hid (X = (mustP (twoOK L t)).bind (fun _ => .ok t)) := by show _ = _; rw [E0.out, hk]; rfl
      clear hk
      refine SM.out.mono ?_
      rintro e w1 ⟨hg, v, rfl, rfl⟩
      obtain ⟨n0, n1, n2, n3, n4⟩ := BX2.out w1 hg
      have MU := hide (MU0.out t htt w1)
      cases h1 : twoOK L t with
      | true =>
        rw [h1] at MU
        have E2 : Hid (X = .ok t) := by show _ = _; rw [E.out, h1]; rfl
        clear h1
        go_wp2_with (first | (go_at_call 109; refine MU.out.mono ?_; rintro e w2 ⟨hg2, v, rfl, rfl⟩) | fail)
        go_ret
        exact ended_ok E2.out (grown_trans (grown_trans g0.out hg) hg2) rfl
      | false =>
        rw [h1] at MU
        have E2 : Hid (X = .error 4) := by show _ = _; rw [E.out, h1]; rfl
        clear h1
        go_wp2_with (first | (go_at_call 109; refine MU.out.mono ?_; rintro e w2 ⟨hg2, rfl⟩) | fail)
        exact ⟨rfl, ended_err E2.out (grown_trans (grown_trans g0.out hg) hg2)⟩

set_option maxRecDepth 100000 in
set_option maxHeartbeats 40000000 in
theorem type_one (n : Nod) (A : At) (u : Sl) (vs : List (Val × List Int)) (w : World) (hop : n.op ∈ ([⟨#[73, 100, 101, 110, 116, 105, 116, 121]⟩, ⟨#[78, 101, 103]⟩, ⟨#[65, 98, 115]⟩, ⟨#[78, 111, 116]⟩, ⟨#[82, 101, 108, 117]⟩, ⟨#[83, 113, 114, 116]⟩, ⟨#[70, 108, 111, 111, 114]⟩, ⟨#[69, 120, 112]⟩, ⟨#[83, 105, 103, 109, 111, 105, 100]⟩, ⟨#[84, 97, 110, 104]⟩] : List ByteArray)) (hn : NodeOk w n A) (hv : ValsIn w u.v vs) (hl : vs.length = 1) (hf : vs.length ≤ 1000000) (ht : ∀ s ∈ tysOf vs, isTypeP s = true) : Calls Tryz.prog 90 #[nval n, .slice u.a u.n u.c] w (Ended w ((sameP (tysOf vs)).bind (fun t => (mustP (oneOK n.op.toList t)).bind (fun _ => .ok t))) fun t v _ => v = .int .i64 t) := by
  obtain ⟨xa, xc, e1, p1, p2, p3⟩ := hv.vals.form
  rw [List.length_map] at e1 p1 p3
  obtain ⟨ua, un, uc⟩ := u
  simp only [Sl.v, Value.slice.injEq] at e1
  obtain ⟨rfl, rfl, rfl⟩ := e1
  have HV := hide hv
  have HT := hide ht
  clear hv ht
  have NK := hide hn
  obtain ⟨op, nam, ⟨ia, il, ic⟩, out, ⟨ao, al, cap⟩⟩ := n
  unfold nval
  simp only
  obtain ⟨w0, hw0⟩ : ∃ w0, w0 = w.alloc (.cells #[.string op, .string nam, .slice ia il ic, .string out, .slice ao al cap] 36) := ⟨_, rfl⟩
  have g0 : Hid (w.grownBy w0 none) := by show w.grownBy w0 none; rw [hw0]; exact grown_new _ _
  have hb0 := heap_alloc_new w (.cells #[.string op, .string nam, .slice ia il ic, .string out, .slice ao al cap] 36)
  rw [← hw0] at hb0
  have BX : Hid (∀ wx, w0.grownBy wx none → wx.heap[w.heap.size]? = some (.cells #[.string op, .string nam, .slice ia il ic, .string out, .slice ao al cap] 36 (0, 0))) := fun wx hg => box_kept hb0 hg
  clear hb0 hn
  simp only at hop
  have hp : 0 < vs.length := by omega
  have SM := hide (sametype_any ⟨ua, vs.length, uc⟩ vs w0 (HV.out.more g0.out) hp hf)
  simp only at SM
  have b2 : ((vs.length : Int) == 2) = false := by rw [hl]; decide
  have HM : op.toList ∈ names1 := by
    simp only [List.mem_cons, List.not_mem_nil, or_false] at hop
    rw [bytes_toList]
    rcases hop with rfl | rfl | rfl | rfl | rfl | rfl | rfl | rfl | rfl | rfl <;> decide
  have MU0 := hide (fun (t : Int) (htt : isTypeP t = true) (wx : World) => mustone_any op t HM htt wx)
  have BX2 := hide (fun (wx : World) (hx : w0.grownBy wx none) => nod_cells (n := ⟨op, nam, ⟨ia, il, ic⟩, out, ⟨ao, al, cap⟩⟩) (BX.out wx hx))
  simp only at BX2
  obtain ⟨L, hL⟩ : ∃ L, L = op.toList := ⟨_, rfl⟩
  rw [← hL] at MU0 ⊢
  obtain ⟨X, hX⟩ : ∃ X, X = (sameP (tysOf vs)).bind (fun t => (mustP (oneOK L t)).bind (fun _ => .ok t)) := ⟨_, rfl⟩
  have E0 : Hid (X = (sameP (vs.map (·.1.ty))).bind (fun t => (mustP (oneOK L t)).bind (fun _ => .ok t))) := hX
  rw [← hX]
  clear hl HM hL hX BX
  simp only [List.mem_cons, List.not_mem_nil, or_false] at hop
  rcases hop with rfl | rfl | rfl | rfl | rfl | rfl | rfl | rfl | rfl | rfl
  all_goals
    go_enter Tryz.func90, Tryz.ntmps90
    go_wp2_with fail
    rw [← hw0]
    clear hw0
    cases hk : sameP (vs.map (·.1.ty)) with
    | error c =>
      rw [hk] at SM
      have E : Hid (X = .error c) := by show _ = _; rw [E0.out, hk]; rfl
      clear hk
      refine SM.out.mono ?_
      rintro e w' ⟨hg, rfl⟩
      exact ⟨rfl, ended_err E.out (grown_trans g0.out hg)⟩
    | ok t =>
      have htt := sameP_typ hk (by simpa using hp) HT.out
      rw [hk] at SM
      have E : Hid (X = (mustP (oneOK L t)).bind (fun _ => .ok t)) := by show _ = _; rw [E0.out, hk]; rfl
      clear hk
      refine SM.out.mono ?_
      rintro e w1 ⟨hg, v, rfl, rfl⟩
      obtain ⟨n0, n1, n2, n3, n4⟩ := BX2.out w1 hg
      have MU := hide (MU0.out t htt w1)
      cases h1 : oneOK L t with
      | true =>
        rw [h1] at MU
        have E2 : Hid (X = .ok t) := by show _ = _; rw [E.out, h1]; rfl
        clear h1
        go_wp2_with (first | (go_at_call 93; refine MU.out.mono ?_; rintro e w2 ⟨hg2, v, rfl, rfl⟩) | fail)
        go_ret
        exact ended_ok E2.out (grown_trans (grown_trans g0.out hg) hg2) rfl
      | false =>
        rw [h1] at MU
        have E2 : Hid (X = .error 4) := by show _ = _; rw [E.out, h1]; rfl
        clear h1
        go_wp2_with (first | (go_at_call 93; refine MU.out.mono ?_; rintro e w2 ⟨hg2, rfl⟩) | fail)
        exact ⟨rfl, ended_err E2.out (grown_trans (grown_trans g0.out hg) hg2)⟩

end Go.Proofs.YtfladhogkhhlcaaGreatDoor

/- What a node makes of values: newValue and valueOf, by the walk. -/
namespace Go.Proofs.YtfladhogkhhlcaaGreatDoor
open Go.RowKit

/-- Values whose types and dims may be. -/
def vinP : List (Val × List Int) → R Unit
  | [] => .ok ()
  | p :: l => (typP p.1.ty).bind (fun _ => (countP p.2).bind (fun _ => vinP l))

/-- What follows in a node must have the type. -/
def thenP (t : Int) : List ByteArray → R Unit
  | [] => .ok ()
  | o :: l => (mustP (oneOK o.toList t)).bind (fun _ => thenP t l)

theorem vinP_step {vs : List (Val × List Int)} {k : Nat} (hk : k < vs.length) : vinP (vs.drop k) = (typP vs[k].1.ty).bind (fun _ => (countP vs[k].2).bind (fun _ => vinP (vs.drop (k + 1)))) := by
  rw [List.drop_eq_getElem_cons hk]
  rfl

theorem thenP_step {t : Int} {os : List ByteArray} {k : Nat} (hk : k < os.length) : thenP t (os.drop k) = (mustP (oneOK os[k].toList t)).bind (fun _ => thenP t (os.drop (k + 1))) := by
  rw [List.drop_eq_getElem_cons hk]
  rfl

theorem valInfo : (Tryz.prog.info? 48).map (·.size) = some 3 := by kernel_rfl

theorem ret_val {fn : Func} {p : Tmp} (h : fn.results = #[.cell p 48]) (tmps : Array Value) (w : World) (B : Nat) (hp : tmps.getD p undef = .pointer (some ⟨B, 0, none⟩)) {a0 a1 a2 : Value}
    (hb : w.heap[B]? = some (.cells #[a0, a1, a2] 48 (0, 0))) : (results fn tmps).run Tryz.prog w = .ok (.agg #[a0, a1, a2]) w :=
  results_cell_row h tmps w B 48 #[a0, a1, a2] (0, 0) _ hp hb Tryz.underlying48 rfl (by rw [valInfo]; rfl)

set_option maxRecDepth 100000 in
set_option maxHeartbeats 2000000 in
theorem newvalue_any (nm : ByteArray) (t : Int) (u : Sl) (ds : List Int) (w : World) (hd : IsInts w u.v ds) (hs : nm.size ≤ 281474976710656) : Calls Tryz.prog 94 #[.string nm, .int .i64 t, .slice u.a u.n u.c] w fun e w' => ∃ s : Sl, e = .returned (.agg #[.string nm, .int .i64 t, .slice s.a s.n s.c]) ∧ Owns w' w.heap.size s.v ds ∧ w.grownBy w' none := by
  obtain ⟨w0, hw0⟩ : ∃ w0, w0 = w.alloc (.cells #[.string ⟨#[]⟩, .int .i64 0, .slice none 0 0] 48) := ⟨_, rfl⟩
  have g0 : Hid (w.grownBy w0 none) := by show w.grownBy w0 none; rw [hw0]; exact grown_new _ _
  have hb0 := heap_alloc_new w (.cells #[.string ⟨#[]⟩, .int .i64 0, .slice none 0 0] 48)
  rw [← hw0] at hb0
  have BX : Hid (∀ wx, w0.grownBy wx none → wx.heap[w.heap.size]? = some (.cells #[.string ⟨#[]⟩, .int .i64 0, .slice none 0 0] 48 (0, 0))) := fun wx hg => box_kept hb0 hg
  have SC := hide (strclone_any nm w0 hs)
  have HD := hide hd
  clear hb0 hd
  go_enter Tryz.func94, Tryz.ntmps94
  go_wp2_with fail
  rw [← hw0]
  clear hw0
  refine SC.out.mono ?_
  rintro e w1 ⟨rfl, hg1⟩
  have CL := hide (cloneI_any u ds w1 (HD.out.more (grown_trans g0.out hg1)))
  go_wp2_with (first | (go_at_call 80; refine CL.out.mono ?_; rintro e w2 ⟨⟨s1, s2, s3⟩, rfl, ho, hg2⟩; simp only; have g2 := grown_trans hg1 hg2; have B2 := BX.out w2 g2; obtain ⟨f0, f1, f2⟩ := ten_frozen B2; have c0 := (cell_of_row _ _ 0 _ _ (0, 0) B2).trans rfl; have c1 := (cell_of_row _ _ 1 _ _ (0, 0) B2).trans rfl; have c2 := (cell_of_row _ _ 2 _ _ (0, 0) B2).trans rfl) | fail)
  obtain ⟨hX, gX⟩ := store3t (.string nm) (.int .i64 t) (.slice s1 s2 s3) B2
  have gf : w.grownBy _ none := grown_drop (grown_trans g0.out g2) gX (Nat.le_refl _)
  refine bodyPost_ret (ret_val rfl _ _ w.heap.size rfl hX) rfl ?_
  refine ⟨⟨s1, s2, s3⟩, rfl, ?_, gf⟩
  have hb : w.heap.size < w1.heap.size := by have := (BX.out w1 hg1); exact (Array.getElem?_eq_some_iff.1 this).1
  have h := (ho.base_le (b' := w.heap.size + 1) (by omega)).more gX (by
    rcases ho.1.2 with ⟨e, -⟩ | ⟨gg, cap, cur, e, hgg, -⟩
    · exact .inl (by rw [e]; rfl)
    · exact .inr (by rw [e]; simp [Value.ownBlock]; omega))
  exact h.base_le (by omega)
end Go.Proofs.YtfladhogkhhlcaaGreatDoor
