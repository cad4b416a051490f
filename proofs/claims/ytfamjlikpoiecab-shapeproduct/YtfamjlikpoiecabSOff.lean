/- Offset, by the walk: of the code, and the document's. -/
import Derived.Test.YtfamjlikpoiecabSCrd
namespace Go.Proofs.Ytfamjlikpoiecab
open Go.RowKit

def offE (zs cs : List Int) : Int := if cntE zs ≠ 0 then cntE zs else if inside zs cs = true then 0 else 1
def offN (zs cs : List Int) : Int := if offE zs cs = 0 then offs zs cs else 0

theorem inside_length : ∀ {zs cs : List Int}, inside zs cs = true → cs.length = zs.length
  | [], [], _ => rfl
  | z :: zs, x :: cs, h => by
    simp only [inside, Bool.and_eq_true] at h
    simpa using inside_length h.2
  | [], _ :: _, h => by simp [inside] at h
  | _ :: _, [], h => by simp [inside] at h

theorem inside_of : ∀ {zs cs : List Int}, cs.length = zs.length → (∀ t, t < zs.length → 0 ≤ cs.getD t 0 ∧ cs.getD t 0 < zs.getD t 0) → inside zs cs = true
  | [], [], _, _ => rfl
  | z :: zs, x :: cs, hl, h => by
    have h0 := h 0 (by simp)
    simp [List.getD] at h0
    simp only [inside, Bool.and_eq_true, decide_eq_true_eq]
    refine ⟨h0, inside_of (by simpa using hl) fun t ht => ?_⟩
    have := h (t + 1) (by simpa using ht)
    simpa [List.getD] using this
  | [], _ :: _, hl, _ => by simp at hl
  | _ :: _, [], hl, _ => by simp at hl

theorem inside_at : ∀ {zs cs : List Int}, inside zs cs = true → ∀ t, t < zs.length → 0 ≤ cs.getD t 0 ∧ cs.getD t 0 < zs.getD t 0
  | z :: zs, x :: cs, h, t, ht => by
    simp only [inside, Bool.and_eq_true, decide_eq_true_eq] at h
    cases t with
    | zero => simpa [List.getD] using h.1
    | succ t =>
      have := inside_at h.2 t (by simpa using ht)
      simpa [List.getD] using this
  | [], _, _, t, ht => by simp at ht
  | _ :: _, [], h, _, _ => by simp [inside] at h

theorem offs_drop_step {zs cs : List Int} (hl : cs.length = zs.length) {k : Nat} (hk : k < zs.length) :
    offs (zs.drop k) (cs.drop k) = cs.getD k 0 * (strd zs).getD k 0 + offs (zs.drop (k + 1)) (cs.drop (k + 1)) := by
  rw [drop_step zs k hk, drop_step cs k (by omega), strd_at zs k hk]
  rfl

theorem offs_snoc : ∀ (zs cs : List Int) (d c : Int), cs.length = zs.length → offs (zs ++ [d]) (cs ++ [c]) = offs zs cs * d + c
  | [], [], d, c, _ => by simp [offs, prod]
  | z :: zs, x :: cs, d, c, hl => by
    have ih := offs_snoc zs cs d c (by simpa using hl)
    simp only [List.cons_append, offs, ih, prod_append, prod, Int.mul_one, Int.add_mul, Int.mul_assoc]
    omega
  | [], _ :: _, _, _, hl => by simp at hl
  | _ :: _, [], _, _, hl => by simp at hl

theorem offs_lt : ∀ {zs cs : List Int}, inside zs cs = true → 0 ≤ offs zs cs ∧ offs zs cs < prod zs
  | [], [], _ => by simp [offs, prod]
  | z :: zs, x :: cs, h => by
    simp only [inside, Bool.and_eq_true, decide_eq_true_eq] at h
    obtain ⟨h1, h2⟩ := offs_lt h.2
    have h3 : 0 ≤ x * prod zs := Int.mul_nonneg h.1.1 (by omega)
    have h4 : (x + 1) * prod zs ≤ z * prod zs := Int.mul_le_mul_of_nonneg_right (by omega) (by omega)
    rw [Int.add_mul, Int.one_mul] at h4
    simp only [offs, prod]
    omega
  | [], _ :: _, h => by simp [inside] at h
  | _ :: _, [], h => by simp [inside] at h

theorem inside_take {zs cs : List Int} {k : Nat} (hl : cs.length = zs.length) (hk : k ≤ zs.length) (h : ∀ t, t < k → 0 ≤ cs.getD t 0 ∧ cs.getD t 0 < zs.getD t 0) : inside (zs.take k) (cs.take k) = true := by
  refine inside_of (by simp; omega) fun t ht => ?_
  have ht' : t < k := by simp at ht; omega
  have := h t ht'
  simpa [List.getD, ht'] using this

theorem not_inside {zs cs : List Int} {k : Nat} (hk : k < zs.length) {c d : Int} (hc : c = cs.getD k 0) (hd : d = zs.getD k 0) (h : c < 0 ∨ d ≤ c) : inside zs cs = false := by
  rw [Bool.eq_false_iff]
  intro hi
  have := inside_at hi k hk
  omega

theorem ret_off {zs cs : List Int} {e n : Int} (he : offE zs cs = e) (hn : offN zs cs = n) : Ending.returned (.tuple #[.int .i64 n, .int .i64 e]) = Ending.returned (.tuple #[.int .i64 (offN zs cs), .int .i64 (offE zs cs)]) := by rw [he, hn]

theorem ret_off1 {zs cs : List Int} (hE : cntE zs = 0) (hi : inside zs cs = false) : Ending.returned (.tuple #[.int .i64 0, .int .i64 1]) = Ending.returned (.tuple #[.int .i64 (offN zs cs), .int .i64 (offE zs cs)]) := by
  have e1 : offE zs cs = 1 := by simp [offE, hE, hi]
  exact ret_off e1 (by simp [offN, e1])

theorem ret_off0 {zs cs : List Int} (hE : cntE zs = 0) (hi : inside zs cs = true) {n : Int} (hn : n = offs zs cs) : Ending.returned (.tuple #[.int .i64 n, .int .i64 0]) = Ending.returned (.tuple #[.int .i64 (offN zs cs), .int .i64 (offE zs cs)]) := by
  have e1 : offE zs cs = 0 := by simp [offE, hE, hi]
  exact ret_off e1 (by simp [offN, e1, hn])

/-- c times the stride there. -/
theorem step_le {zs : List Int} (hF : Fine zs) {k : Nat} (hk : k < zs.length) {c : Int} (h0 : 0 ≤ c) (h1 : c < zs.getD k 0) : 0 ≤ c * (strd zs).getD k 0 ∧ c * (strd zs).getD k 0 ≤ 65536 := by
  rw [strd_at zs k hk]
  have hp := (hF.drop (k + 1)).prod_pos
  have hl := (hF.drop k).le
  rw [prod_drop_step zs k hk] at hl
  have h3 : 0 ≤ c * prod (zs.drop (k + 1)) := Int.mul_nonneg h0 (by omega)
  have h4 : c * prod (zs.drop (k + 1)) ≤ zs.getD k 0 * prod (zs.drop (k + 1)) := Int.mul_le_mul_of_nonneg_right (by omega) (by omega)
  omega

set_option maxHeartbeats 800000 in
theorem offset_any (v u : Value) (zs cs : List Int) (w : World) (h : IsInts w v zs) (hu : IsInts w u cs) :
    Calls Try.prog 32 #[v, u] w fun e w' => e = .returned (.tuple #[.int .i64 (offN zs cs), .int .i64 (offE zs cs)]) ∧ w.grownBy w' none := by
  have hcount := hide (strides_any v zs w h)
  have h0 := hide h
  have hu0 := hide hu
  obtain ⟨ao, cap, rfl, h1, h2, h3, -, -, -⟩ := h
  obtain ⟨bo, bcap, rfl, hb1, hb2, hb3, -, -, -⟩ := hu
  by_cases hE : cntE zs = 0
  · have HF := hide (fine_of hE)
    have HE := hide hE
    have hes : strdE zs = strd zs := by simp [strdE, hE]
    rw [hE, hes] at hcount
    clear hE hes
    by_cases hl : cs.length = zs.length
    · have hl' : ((cs.length : Int) == (zs.length : Int)) = true := by simp [hl]
      have HL := hide hl
      have hl1 : zs.length ≤ cs.length := by omega
      have hl2 : cs.length ≤ zs.length := by omega
      clear hl
      go_enter Try.func32, Try.ntmps32
      go_wp2_with (go_at_call 12; refine hcount.out.mono ?_; rintro e w1 ⟨s, rfl, hown, hg⟩)
      obtain ⟨_, scap, rfl, hs1, hs2, -, -, -, -⟩ := hown.ints
      have HS := hide hown.ints
      have hsl := strd_length zs
      clear hown
      go_loopw [8, 26] (fun m i wr => w1.grownBy wr none ∧ ∃ (k : Nat) (n : Int), k ≤ zs.length ∧ i = .int .i64 k ∧ m = .int .i64 n ∧ 0 ≤ n ∧ n ≤ 65536 * k ∧ n + offs (zs.drop k) (cs.drop k) = offs zs cs ∧ ∀ t, t < k → 0 ≤ cs.getD t 0 ∧ cs.getD t 0 < zs.getD t 0) (fun _ i _ => zs.length - (intOf i).toNat)
      case atStart => exact ⟨grown_refl _, 0, 0, Nat.zero_le _, rfl, rfl, by omega, by omega, by simp, fun t h => absurd h (by omega)⟩
      case round =>
        obtain ⟨hw, k, n, hk, rfl, rfl, hn0, hn1, hsum, hin⟩ := hrel
        have HSUM := hide hsum
        have HIN := hide hin
        have hfew := HF.out.few
        clear hsum hin
        by_cases hkl : k < zs.length
        · have HG := hide (grown_trans hg hw)
          obtain ⟨b, off, rfl⟩ := addr_of h0.out (by omega)
          obtain ⟨b', off', rfl⟩ := addr_of hu0.out (by omega)
          obtain ⟨b'', off'', hs⟩ := addr_of HS.out (by omega)
          subst hs
          have hcz := item_at (h0.out.more HG.out) hkl
          have hcc := item_at (hu0.out.more HG.out) (k := k) (by omega)
          have hcs := item_at (HS.out.more hw) (k := k) (by omega)
          have hst := step_le HF.out hkl (c := cs.getD k 0)
          have hds := offs_drop_step HL.out hkl
          obtain ⟨d, hd⟩ : ∃ d, d = zs.getD k 0 := ⟨_, rfl⟩
          obtain ⟨c, hc⟩ : ∃ c, c = cs.getD k 0 := ⟨_, rfl⟩
          obtain ⟨s, hs⟩ : ∃ s, s = (strd zs).getD k 0 := ⟨_, rfl⟩
          rw [← hd] at hcz hst
          rw [← hc] at hcc hst hds
          rw [← hs] at hcs hst hds
          have HD := hide hd
          have HC := hide hc
          have HDS := hide hds
          clear hd hc hs hds
          by_cases hc0 : c < 0
          · clear hst
            go_wp2
            go_ret2
            exact ⟨ret_off1 HE.out (not_inside hkl HC.out HD.out (Or.inl hc0)), HG.out⟩
          · by_cases hc1 : d ≤ c
            · clear hst
              go_wp2
              go_ret2
              exact ⟨ret_off1 HE.out (not_inside hkl HC.out HD.out (Or.inr hc1)), HG.out⟩
            · have hst' := hst (by omega) (by omega)
              clear hst
              obtain ⟨hst1, hst2⟩ := hst'
              go_wp2
              go_roundw
              case rel =>
                refine ⟨hw, k + 1, n + c * s, by omega, by go_num, by first | rfl | go_num, by omega, by omega, ?_, fun t ht => ?_⟩
                · have h1 := HDS.out; have h2 := HSUM.out; omega
                · rcases lt_succ_cases ht with h | rfl
                  · exact HIN.out t h
                  · rw [← HC.out, ← HD.out]; omega
              case measure => simp [intOf]; omega
        · have HI : Hid (inside zs cs = true) := inside_of HL.out fun t ht => HIN.out t (by omega)
          have HN : Hid (n = offs zs cs) := by
            show n = _
            have := HSUM.out
            rw [List.drop_of_length_le (show zs.length ≤ k by omega)] at this
            simpa [offs] using this
          go_wp2
          go_ret2
          exact ⟨ret_off0 HE.out HI.out HN.out, grown_trans hg hw⟩
    · have hl' : ((cs.length : Int) == (zs.length : Int)) = false := by simp; omega
      have HI : Hid (inside zs cs = false) := by
        show _ = _
        rw [Bool.eq_false_iff]
        exact fun h => hl (inside_length h)
      clear hl
      go_enter Try.func32, Try.ntmps32
      go_wp2_with (go_at_call 12; refine hcount.out.mono ?_; rintro e w1 ⟨s, rfl, hown, hg⟩)
      go_ret2
      exact ⟨ret_off1 HE.out HI.out, hg⟩
  · have e1 : offE zs cs = cntE zs := by simp [offE, hE]
    rw [show offN zs cs = 0 by simp [offN, e1, hE], e1]
    obtain ⟨E, hEE⟩ : ∃ E, E = cntE zs := ⟨_, rfl⟩
    rw [← hEE] at hcount hE ⊢
    have hE' : (E == 0) = false := by simpa using hE
    clear hEE hE e1
    go_enter Try.func32, Try.ntmps32
    go_wp2_with (go_at_call 12; refine hcount.out.mono ?_; rintro e w1 ⟨s, rfl, hown, hg⟩)
    go_ret2
    exact ⟨rfl, hg⟩

end Go.Proofs.Ytfamjlikpoiecab
