/- Broadcast, by the walk: of the code, and the document's. -/
import Derived.Test.YteigfipgmghgmaaGreatDoorSStr
namespace Go.Proofs.YteigfipgmghgmaaGreatDoor
open Go.RowKit

/-- Two dimensions that can't be spread to one another. -/
def apartAt (p q : Int) : Bool := !(p == q) && (!(p == 1) && !(q == 1))
/-- The greater ones, of the last k places. -/
def bcL (a b : List Int) : Nat → List Int
  | 0 => []
  | k + 1 => max (bh a k) (bh b k) :: bcL a b k
def bcBad (a b : List Int) : Nat → Bool
  | 0 => false
  | k + 1 => apartAt (bh a k) (bh b k) || bcBad a b k
def rank (a b : List Int) : Nat := max a.length b.length
def bcE (a b : List Int) : Int := if cntE a ≠ 0 then cntE a else if cntE b ≠ 0 then cntE b else if bcBad a b (rank a b) = true then 4 else cntE (bcL a b (rank a b))
def bcR (a b : List Int) : List Int := if bcE a b = 0 then bcL a b (rank a b) else []

theorem bcL_length (a b : List Int) (k : Nat) : (bcL a b k).length = k := by
  induction k with
  | zero => rfl
  | succ k ih => simp [bcL, ih]

theorem bcBad_of {a b : List Int} {k n : Nat} (hk : k < n) (h : apartAt (bh a k) (bh b k) = true) : bcBad a b n = true := by
  induction n with
  | zero => omega
  | succ n ih =>
    rcases lt_succ_cases hk with h1 | rfl
    · simp [bcBad, ih h1]
    · simp [bcBad, h]

theorem bh_wf {zs : List Int} (h : ∀ z ∈ zs, -9223372036854775808 ≤ z ∧ z ≤ 9223372036854775807) (i : Nat) : -9223372036854775808 ≤ bh zs i ∧ bh zs i ≤ 9223372036854775807 := by
  unfold bh
  split
  · omega
  · exact h _ (by rw [List.getD, List.getElem?_eq_getElem (by omega)]; simp)

theorem bcL_wf {a b : List Int} (ha : ∀ z ∈ a, -9223372036854775808 ≤ z ∧ z ≤ 9223372036854775807) (hb : ∀ z ∈ b, -9223372036854775808 ≤ z ∧ z ≤ 9223372036854775807) (k : Nat) : ∀ z ∈ bcL a b k, -9223372036854775808 ≤ z ∧ z ≤ 9223372036854775807 := by
  induction k with
  | zero => intro z hz; simp [bcL] at hz
  | succ k ih =>
    intro z hz
    rcases List.mem_cons.1 hz with rfl | hz
    · have h1 := bh_wf ha k
      have h2 := bh_wf hb k
      omega
    · exact ih z hz

theorem apart_cases (p q : Int) (h : apartAt p q = true) : (p == q) = false ∧ (p == 1) = false ∧ (q == 1) = false := by
  simp only [apartAt, Bool.and_eq_true, Bool.not_eq_true'] at h
  exact h

theorem ret_bc {E : Int} {a b : List Int} {w w' : World} (h : bcE a b = E) (h0 : E ≠ 0) (hg : w.grownBy w' none) :
    ∃ u, Ending.returned (.tuple #[.slice none 0 0, .int .i64 E]) = .returned (.tuple #[u, .int .i64 (bcE a b)]) ∧ Owns w' w.heap.size u (bcR a b) ∧ w.grownBy w' none :=
  ⟨_, by rw [h], by rw [show bcR a b = [] by simp [bcR, h, h0]]; exact owns_nil _ _, hg⟩

theorem cntE_neq {zs : List Int} (h : cntE zs ≠ 0) : (cntE zs == 0) = false := by simpa using h

set_option maxRecDepth 100000 in
set_option maxHeartbeats 1600000 in
theorem bc_any (v u : Value) (a b : List Int) (w : World) (h : IsInts w v a) (hu : IsInts w u b) :
    Calls Tryz.prog 40 #[v, u] w fun e w' => ∃ r, e = .returned (.tuple #[r, .int .i64 (bcE a b)]) ∧ Owns w' w.heap.size r (bcR a b) ∧ w.grownBy w' none := by
  obtain ⟨i0, hi, hz0, hz1, hz2⟩ := info_parts infoInt
  have hca := hide (count_any v a w h)
  have hcb := hide (count_any u b w hu)
  have h0 := hide h
  have hu0 := hide hu
  obtain ⟨ao, cap, rfl, h1, h2, h3, -, -, -⟩ := h
  obtain ⟨bo, bcap, rfl, hb1, hb2, hb3, -, -, -⟩ := hu
  by_cases hE : cntE a = 0
  · by_cases hF : cntE b = 0
    · have HA := hide (fine_of hE)
      have HB := hide (fine_of hF)
      have HEF : Hid (bcE a b = if bcBad a b (rank a b) = true then 4 else cntE (bcL a b (rank a b))) := by simp [Hid, bcE, hE, hF]
      rw [hE] at hca
      rw [hF] at hcb
      clear hE hF
      have hl1 := HA.out.few
      have hl2 := HB.out.few
      by_cases hlt : a.length < b.length
      · skip
        have HR : Hid (b.length = rank a b) := by simp only [Hid, rank]; omega
        rw [← HR.out] at HEF
        have hb4 : i0.bytes * b.length ≤ 281474976710656 := by rw [hz2]; omega
        have hb5 : b.length ≤ maxLen := by simp only [maxLen]; omega
        go_enter Tryz.func40, Tryz.ntmps40
        go_wp2_with fail
        refine hca.out.mono ?_
        rintro e w' ⟨rfl, rfl⟩
        go_wp2_with fail
        refine hcb.out.mono ?_
        rintro e w' ⟨rfl, rfl⟩
        go_wp2_with (refine wpList_make_full _ rfl (.tmp 38) (.tmp 38) 29 rfl w.heap.size 3 i0 (.int .i64 0) 1 Tryz.underlying29 hi hz0 hz1 .i64 .i64 _ _ b.length rfl rfl rfl rfl hb4 hb5 (Nat.le_refl _) ?_; intro w1 hown hgrow)
        rw [made_zeros] at hown
        go_loopw [41] (fun i wr => w.grownBy wr none ∧ ∃ k : Nat, k ≤ b.length ∧ i = .int .i64 k ∧ bcBad a b k = false ∧
          wr.ownsRow w.heap.size 3 1 (.slice (some ⟨w.heap.size, 0, none⟩) b.length b.length) b.length ((backFill b.length k (bcL a b k)).map (Value.int .i64))) (fun i _ => b.length - (intOf i).toNat)
        case atStart => exact ⟨hgrow, 0, Nat.zero_le _, rfl, rfl, by simpa [backFill, bcL] using hown⟩
        case round =>
          clear hown hgrow
          obtain ⟨hw, k, hk, rfl, hbad, hown⟩ := hrel
          have HBAD := hide hbad
          clear hbad
          by_cases hkl : k < b.length
          · have hpa := behind_any _ a k _ (h0.out.more hw) (by omega)
            have hpb := behind_any _ b k _ (hu0.out.more hw) (by omega)
            have hp1 := bh_pos (k := k) HA.out.pos
            have hq1 := bh_pos (k := k) HB.out.pos
            have hbo := @bcBad_of a b k b.length hkl
            obtain ⟨p, hp⟩ : ∃ p, p = bh a k := ⟨_, rfl⟩
            obtain ⟨q, hq⟩ : ∃ q, q = bh b k := ⟨_, rfl⟩
            rw [← hp] at hpa hp1 hbo
            rw [← hq] at hpb hq1 hbo
            have HPA := hide hpa
            have HPB := hide hpb
            have HP := hide hp
            have HQ := hide hq
            have HBO := hide hbo
            clear hpa hpb hp hq hbo
            by_cases hap : apartAt p q = true
            · obtain ⟨t1, t2, t3⟩ := apart_cases p q hap
              have HE4 : Hid (bcE a b = 4) := by simp only [Hid]; rw [HEF.out, if_pos (HBO.out hap)]
              have n1 : (p != q) = true := by simp [bne, t1]
              have n2 : (p != 1) = true := by simp [bne, t2]
              have n3 : (q != 1) = true := by simp [bne, t3]
              clear hap t1 t2 t3
              go_wp2_with fail
              refine HPA.out.mono ?_
              rintro e w' ⟨rfl, rfl⟩
              go_wp2_with fail
              refine HPB.out.mono ?_
              rintro e w' ⟨rfl, rfl⟩
              go_wp2
              go_ret2
              exact ret_bc HE4.out (by decide) hw
            · have HNB : Hid (apartAt p q = false) := by simp only [Hid]; simpa using hap
              rcases (show p = q ∨ (p ≠ q ∧ p = 1) ∨ (p ≠ q ∧ p ≠ 1 ∧ q = 1) by
                simp only [apartAt, Bool.and_eq_true, Bool.not_eq_true', beq_eq_false_iff_ne, ne_eq] at hap; omega) with hc1 | ⟨hc1, hc2⟩ | ⟨hc1, hc2, hc3⟩
              · subst hc1
                obtain ⟨⟨c, hc⟩, hf, hown2, hw2⟩ := fill_step (z := p) hkl hw hown
                have HM : Hid (p = max p p) := by simp only [Hid]; omega
                have HO := hide hown2
                have HW := hide hw2
                clear hap
                clear hown hown2 hw2 hw
                go_wp2_with fail
                refine HPA.out.mono ?_
                rintro e w' ⟨rfl, rfl⟩
                go_wp2_with fail
                refine HPB.out.mono ?_
                rintro e w' ⟨rfl, rfl⟩
                go_wp2
                go_roundw
                case rel =>
                  refine ⟨HW.out, k + 1, by omega, by go_num, ?_, ?_⟩
                  · simp only [bcBad]
                    rw [← HP.out, ← HQ.out, HNB.out, HBAD.out]
                    rfl
                  · simp only [bcL]
                    rw [← HP.out, ← HQ.out, ← HM.out]
                    exact HO.out
                case measure => simp [intOf]; omega
              · subst hc2
                obtain ⟨⟨c, hc⟩, hf, hown2, hw2⟩ := fill_step (z := q) hkl hw hown
                have HM : Hid (q = max 1 q) := by simp only [Hid]; omega
                have HO := hide hown2
                have HW := hide hw2
                have n1 : 1 < q := by omega
                have n2 : ((1 : Int) != q) = true := by simp; omega
                clear hap hc1
                clear hown hown2 hw2 hw
                go_wp2_with fail
                refine HPA.out.mono ?_
                rintro e w' ⟨rfl, rfl⟩
                go_wp2_with fail
                refine HPB.out.mono ?_
                rintro e w' ⟨rfl, rfl⟩
                go_wp2
                go_roundw
                case rel =>
                  refine ⟨HW.out, k + 1, by omega, by go_num, ?_, ?_⟩
                  · simp only [bcBad]
                    rw [← HP.out, ← HQ.out, HNB.out, HBAD.out]
                    rfl
                  · simp only [bcL]
                    rw [← HP.out, ← HQ.out, ← HM.out]
                    exact HO.out
                case measure => simp [intOf]; omega
              · subst hc3
                obtain ⟨⟨c, hc⟩, hf, hown2, hw2⟩ := fill_step (z := p) hkl hw hown
                have HM : Hid (p = max p 1) := by simp only [Hid]; omega
                have HO := hide hown2
                have HW := hide hw2
                have n1 : 1 < p := by omega
                have n2 : (p != 1) = true := by simp; omega
                clear hap hc1 hc2
                clear hown hown2 hw2 hw
                go_wp2_with fail
                refine HPA.out.mono ?_
                rintro e w' ⟨rfl, rfl⟩
                go_wp2_with fail
                refine HPB.out.mono ?_
                rintro e w' ⟨rfl, rfl⟩
                go_wp2
                go_roundw
                case rel =>
                  refine ⟨HW.out, k + 1, by omega, by go_num, ?_, ?_⟩
                  · simp only [bcBad]
                    rw [← HP.out, ← HQ.out, HNB.out, HBAD.out]
                    rfl
                  · simp only [bcL]
                    rw [← HP.out, ← HQ.out, ← HM.out]
                    exact HO.out
                case measure => simp [intOf]; omega
          · have HOW : Hid (Owns wr w.heap.size (.slice (some ⟨w.heap.size, 0, none⟩) b.length b.length) (bcL a b b.length)) := by
              refine ⟨?_, by rw [bcL_length]; omega, bcL_wf h0.out.wf hu0.out.wf _⟩
              have := hown
              rw [show k = b.length by omega, show backFill b.length b.length (bcL a b b.length) = bcL a b b.length by simp [backFill]] at this
              rw [bcL_length]
              exact this
            have HB0 : Hid (bcBad a b b.length = false) := by simp only [Hid]; rw [show b.length = k by omega]; exact HBAD.out
            have hcc := count_any _ _ _ HOW.out.ints
            have hEE : bcE a b = cntE (bcL a b b.length) := by rw [HEF.out, if_neg (by rw [HB0.out]; decide)]
            by_cases hz : cntE (bcL a b b.length) = 0
            · rw [hz] at hcc hEE
              have HEE := hide hEE
              have HCC := hide hcc
              have HRR : Hid (bcR a b = bcL a b b.length) := by simp [Hid, bcR, hEE, ← HR.out]
              clear hcc hEE hz hown
              go_wp2_with fail
              refine HCC.out.mono ?_
              rintro e w' ⟨rfl, rfl⟩
              go_wp2
              go_ret2
              refine ⟨_, by rw [HEE.out]; rfl, ?_, hw⟩
              rw [HRR.out]
              exact HOW.out
            · have hz' := cntE_neq hz
              have HZ := hide hz
              have HEE := hide hEE
              have HCC := hide hcc
              obtain ⟨E, hE⟩ : ∃ E, E = cntE (bcL a b b.length) := ⟨_, rfl⟩
              rw [← hE] at hz' HZ HEE HCC
              clear hcc hEE hz hE hown
              go_wp2_with fail
              refine HCC.out.mono ?_
              rintro e w' ⟨rfl, rfl⟩
              go_wp2
              go_ret2
              exact ret_bc HEE.out HZ.out hw
      · skip
        have HR : Hid (a.length = rank a b) := by simp only [Hid, rank]; omega
        rw [← HR.out] at HEF
        have hb4 : i0.bytes * a.length ≤ 281474976710656 := by rw [hz2]; omega
        have hb5 : a.length ≤ maxLen := by simp only [maxLen]; omega
        go_enter Tryz.func40, Tryz.ntmps40
        go_wp2_with fail
        refine hca.out.mono ?_
        rintro e w' ⟨rfl, rfl⟩
        go_wp2_with fail
        refine hcb.out.mono ?_
        rintro e w' ⟨rfl, rfl⟩
        go_wp2_with (refine wpList_make_full _ rfl (.tmp 38) (.tmp 38) 29 rfl w.heap.size 3 i0 (.int .i64 0) 1 Tryz.underlying29 hi hz0 hz1 .i64 .i64 _ _ a.length rfl rfl rfl rfl hb4 hb5 (Nat.le_refl _) ?_; intro w1 hown hgrow)
        rw [made_zeros] at hown
        go_loopw [41] (fun i wr => w.grownBy wr none ∧ ∃ k : Nat, k ≤ a.length ∧ i = .int .i64 k ∧ bcBad a b k = false ∧
          wr.ownsRow w.heap.size 3 1 (.slice (some ⟨w.heap.size, 0, none⟩) a.length a.length) a.length ((backFill a.length k (bcL a b k)).map (Value.int .i64))) (fun i _ => a.length - (intOf i).toNat)
        case atStart => exact ⟨hgrow, 0, Nat.zero_le _, rfl, rfl, by simpa [backFill, bcL] using hown⟩
        case round =>
          clear hown hgrow
          obtain ⟨hw, k, hk, rfl, hbad, hown⟩ := hrel
          have HBAD := hide hbad
          clear hbad
          by_cases hkl : k < a.length
          · have hpa := behind_any _ a k _ (h0.out.more hw) (by omega)
            have hpb := behind_any _ b k _ (hu0.out.more hw) (by omega)
            have hp1 := bh_pos (k := k) HA.out.pos
            have hq1 := bh_pos (k := k) HB.out.pos
            have hbo := @bcBad_of a b k a.length hkl
            obtain ⟨p, hp⟩ : ∃ p, p = bh a k := ⟨_, rfl⟩
            obtain ⟨q, hq⟩ : ∃ q, q = bh b k := ⟨_, rfl⟩
            rw [← hp] at hpa hp1 hbo
            rw [← hq] at hpb hq1 hbo
            have HPA := hide hpa
            have HPB := hide hpb
            have HP := hide hp
            have HQ := hide hq
            have HBO := hide hbo
            clear hpa hpb hp hq hbo
            by_cases hap : apartAt p q = true
            · obtain ⟨t1, t2, t3⟩ := apart_cases p q hap
              have HE4 : Hid (bcE a b = 4) := by simp only [Hid]; rw [HEF.out, if_pos (HBO.out hap)]
              have n1 : (p != q) = true := by simp [bne, t1]
              have n2 : (p != 1) = true := by simp [bne, t2]
              have n3 : (q != 1) = true := by simp [bne, t3]
              clear hap t1 t2 t3
              go_wp2_with fail
              refine HPA.out.mono ?_
              rintro e w' ⟨rfl, rfl⟩
              go_wp2_with fail
              refine HPB.out.mono ?_
              rintro e w' ⟨rfl, rfl⟩
              go_wp2
              go_ret2
              exact ret_bc HE4.out (by decide) hw
            · have HNB : Hid (apartAt p q = false) := by simp only [Hid]; simpa using hap
              rcases (show p = q ∨ (p ≠ q ∧ p = 1) ∨ (p ≠ q ∧ p ≠ 1 ∧ q = 1) by
                simp only [apartAt, Bool.and_eq_true, Bool.not_eq_true', beq_eq_false_iff_ne, ne_eq] at hap; omega) with hc1 | ⟨hc1, hc2⟩ | ⟨hc1, hc2, hc3⟩
              · subst hc1
                obtain ⟨⟨c, hc⟩, hf, hown2, hw2⟩ := fill_step (z := p) hkl hw hown
                have HM : Hid (p = max p p) := by simp only [Hid]; omega
                have HO := hide hown2
                have HW := hide hw2
                clear hap
                clear hown hown2 hw2 hw
                go_wp2_with fail
                refine HPA.out.mono ?_
                rintro e w' ⟨rfl, rfl⟩
                go_wp2_with fail
                refine HPB.out.mono ?_
                rintro e w' ⟨rfl, rfl⟩
                go_wp2
                go_roundw
                case rel =>
                  refine ⟨HW.out, k + 1, by omega, by go_num, ?_, ?_⟩
                  · simp only [bcBad]
                    rw [← HP.out, ← HQ.out, HNB.out, HBAD.out]
                    rfl
                  · simp only [bcL]
                    rw [← HP.out, ← HQ.out, ← HM.out]
                    exact HO.out
                case measure => simp [intOf]; omega
              · subst hc2
                obtain ⟨⟨c, hc⟩, hf, hown2, hw2⟩ := fill_step (z := q) hkl hw hown
                have HM : Hid (q = max 1 q) := by simp only [Hid]; omega
                have HO := hide hown2
                have HW := hide hw2
                have n1 : 1 < q := by omega
                have n2 : ((1 : Int) != q) = true := by simp; omega
                clear hap hc1
                clear hown hown2 hw2 hw
                go_wp2_with fail
                refine HPA.out.mono ?_
                rintro e w' ⟨rfl, rfl⟩
                go_wp2_with fail
                refine HPB.out.mono ?_
                rintro e w' ⟨rfl, rfl⟩
                go_wp2
                go_roundw
                case rel =>
                  refine ⟨HW.out, k + 1, by omega, by go_num, ?_, ?_⟩
                  · simp only [bcBad]
                    rw [← HP.out, ← HQ.out, HNB.out, HBAD.out]
                    rfl
                  · simp only [bcL]
                    rw [← HP.out, ← HQ.out, ← HM.out]
                    exact HO.out
                case measure => simp [intOf]; omega
              · subst hc3
                obtain ⟨⟨c, hc⟩, hf, hown2, hw2⟩ := fill_step (z := p) hkl hw hown
                have HM : Hid (p = max p 1) := by simp only [Hid]; omega
                have HO := hide hown2
                have HW := hide hw2
                have n1 : 1 < p := by omega
                have n2 : (p != 1) = true := by simp; omega
                clear hap hc1 hc2
                clear hown hown2 hw2 hw
                go_wp2_with fail
                refine HPA.out.mono ?_
                rintro e w' ⟨rfl, rfl⟩
                go_wp2_with fail
                refine HPB.out.mono ?_
                rintro e w' ⟨rfl, rfl⟩
                go_wp2
                go_roundw
                case rel =>
                  refine ⟨HW.out, k + 1, by omega, by go_num, ?_, ?_⟩
                  · simp only [bcBad]
                    rw [← HP.out, ← HQ.out, HNB.out, HBAD.out]
                    rfl
                  · simp only [bcL]
                    rw [← HP.out, ← HQ.out, ← HM.out]
                    exact HO.out
                case measure => simp [intOf]; omega
          · have HOW : Hid (Owns wr w.heap.size (.slice (some ⟨w.heap.size, 0, none⟩) a.length a.length) (bcL a b a.length)) := by
              refine ⟨?_, by rw [bcL_length]; omega, bcL_wf h0.out.wf hu0.out.wf _⟩
              have := hown
              rw [show k = a.length by omega, show backFill a.length a.length (bcL a b a.length) = bcL a b a.length by simp [backFill]] at this
              rw [bcL_length]
              exact this
            have HB0 : Hid (bcBad a b a.length = false) := by simp only [Hid]; rw [show a.length = k by omega]; exact HBAD.out
            have hcc := count_any _ _ _ HOW.out.ints
            have hEE : bcE a b = cntE (bcL a b a.length) := by rw [HEF.out, if_neg (by rw [HB0.out]; decide)]
            by_cases hz : cntE (bcL a b a.length) = 0
            · rw [hz] at hcc hEE
              have HEE := hide hEE
              have HCC := hide hcc
              have HRR : Hid (bcR a b = bcL a b a.length) := by simp [Hid, bcR, hEE, ← HR.out]
              clear hcc hEE hz hown
              go_wp2_with fail
              refine HCC.out.mono ?_
              rintro e w' ⟨rfl, rfl⟩
              go_wp2
              go_ret2
              refine ⟨_, by rw [HEE.out]; rfl, ?_, hw⟩
              rw [HRR.out]
              exact HOW.out
            · have hz' := cntE_neq hz
              have HZ := hide hz
              have HEE := hide hEE
              have HCC := hide hcc
              obtain ⟨E, hE⟩ : ∃ E, E = cntE (bcL a b a.length) := ⟨_, rfl⟩
              rw [← hE] at hz' HZ HEE HCC
              clear hcc hEE hz hE hown
              go_wp2_with fail
              refine HCC.out.mono ?_
              rintro e w' ⟨rfl, rfl⟩
              go_wp2
              go_ret2
              exact ret_bc HEE.out HZ.out hw
    · have HEE : Hid (bcE a b = cntE b) := by simp [Hid, bcE, hE, hF]
      rw [hE] at hca
      have hz' := cntE_neq hF
      have HZ := hide hF
      obtain ⟨E, hEE⟩ : ∃ E, E = cntE b := ⟨_, rfl⟩
      rw [← hEE] at hz' HZ HEE hcb
      clear hE hF hEE
      go_enter Tryz.func40, Tryz.ntmps40
      go_wp2_with fail
      refine hca.out.mono ?_
      rintro e w' ⟨rfl, rfl⟩
      go_wp2_with fail
      refine hcb.out.mono ?_
      rintro e w' ⟨rfl, rfl⟩
      go_wp2
      go_ret2
      exact ret_bc HEE.out HZ.out (grown_refl _)
  · have HEE : Hid (bcE a b = cntE a) := by simp [Hid, bcE, hE]
    have hz' := cntE_neq hE
    have HZ := hide hE
    obtain ⟨E, hEE⟩ : ∃ E, E = cntE a := ⟨_, rfl⟩
    rw [← hEE] at hz' HZ HEE hca
    clear hE hEE
    go_enter Tryz.func40, Tryz.ntmps40
    go_wp2_with fail
    refine hca.out.mono ?_
    rintro e w' ⟨rfl, rfl⟩
    go_wp2
    go_ret2
    exact ret_bc HEE.out HZ.out (grown_refl _)

end Go.Proofs.YteigfipgmghgmaaGreatDoor
