/- Joined texts: SBc, ILists, SRStr, SCrd, VwBase, VwEq, VwPlc. -/
import Derived.Test.YtabddmiffcnnjaaGreatDoorQartAB
namespace Go.Proofs.YtabddmiffcnnjaaGreatDoor

open Go.RowKit

def apartAt (p q : Int) : Bool := !(p == q) && (!(p == 1) && !(q == 1))
def bcL (a b : List Int) : Nat → List Int
  | 0 => []
  | k + 1 => max (bh a k) (bh b k) :: bcL a b k
def bcBad (a b : List Int) : Nat → Bool
  | 0 => false
  | k + 1 => apartAt (bh a k) (bh b k) || bcBad a b k
def rank (a b : List Int) : Nat := max a.length b.length
def bcE (a b : List Int) : Int := if cntE a ≠ 0 then cntE a else if cntE b ≠ 0 then cntE b else if bcBad a b (rank a b) = true then 4 else cntE (bcL a b (rank a b))
def bcR (a b : List Int) : List Int := if bcE a b = 0 then bcL a b (rank a b) else []

theorem bcL_length (a b : List Int) (k : Nat) : (bcL a b k).length = k := by
  induction k with
  | zero => rfl
  | succ k ih => simp [bcL, ih]

theorem bcBad_of {a b : List Int} {k n : Nat} (hk : k < n) (h : apartAt (bh a k) (bh b k) = true) : bcBad a b n = true := by
  induction n with
  | zero => omega
  | succ n ih =>
    rcases lt_succ_cases hk with h1 | rfl
    · simp [bcBad, ih h1]
    · simp [bcBad, h]

theorem bh_wf {zs : List Int} (h : ∀ z ∈ zs, -9223372036854775808 ≤ z ∧ z ≤ 9223372036854775807) (i : Nat) : -9223372036854775808 ≤ bh zs i ∧ bh zs i ≤ 9223372036854775807 := by
  unfold bh
  split
  · omega
  · exact h _ (by rw [List.getD, List.getElem?_eq_getElem (by omega)]; simp)

theorem bcL_wf {a b : List Int} (ha : ∀ z ∈ a, -9223372036854775808 ≤ z ∧ z ≤ 9223372036854775807) (hb : ∀ z ∈ b, -9223372036854775808 ≤ z ∧ z ≤ 9223372036854775807) (k : Nat) : ∀ z ∈ bcL a b k, -9223372036854775808 ≤ z ∧ z ≤ 9223372036854775807 := by
  induction k with
  | zero => intro z hz; simp [bcL] at hz
  | succ k ih =>
    intro z hz
    rcases List.mem_cons.1 hz with rfl | hz
    · have h1 := bh_wf ha k
      have h2 := bh_wf hb k
      omega
    · exact ih z hz

theorem apart_cases (p q : Int) (h : apartAt p q = true) : (p == q) = false ∧ (p == 1) = false ∧ (q == 1) = false := by
  simp only [apartAt, Bool.and_eq_true, Bool.not_eq_true'] at h
  exact h

theorem ret_bc {E : Int} {a b : List Int} {w w' : World} (h : bcE a b = E) (h0 : E ≠ 0) (hg : w.grownBy w' none) :
    ∃ u, Ending.returned (.tuple #[.slice none 0 0, .int .i64 E]) = .returned (.tuple #[u, .int .i64 (bcE a b)]) ∧ Owns w' w.heap.size u (bcR a b) ∧ w.grownBy w' none :=
  ⟨_, by rw [h], by rw [show bcR a b = [] by simp [bcR, h, h0]]; exact owns_nil _ _, hg⟩

theorem cntE_neq {zs : List Int} (h : cntE zs ≠ 0) : (cntE zs == 0) = false := by simpa using h

set_option maxRecDepth 100000 in
set_option maxHeartbeats 1600000 in
theorem bc_any (v u : Value) (a b : List Int) (w : World) (h : IsInts w v a) (hu : IsInts w u b) :
    Calls Tryz.prog 56 #[v, u] w fun e w' => ∃ r, e = .returned (.tuple #[r, .int .i64 (bcE a b)]) ∧ Owns w' w.heap.size r (bcR a b) ∧ w.grownBy w' none := by
  obtain ⟨i0, hi, hz0, hz1, hz2⟩ := info_parts infoInt
  have hca := hide (count_any v a w h)
  have hcb := hide (count_any u b w hu)
  have h0 := hide h
  have hu0 := hide hu
  obtain ⟨ao, cap, rfl, h1, h2, h3, -, -, -⟩ := h
  obtain ⟨bo, bcap, rfl, hb1, hb2, hb3, -, -, -⟩ := hu
  by_cases hE : cntE a = 0
  · by_cases hF : cntE b = 0
    · have HA := hide (fine_of hE)
      have HB := hide (fine_of hF)
      have HEF : Hid (bcE a b = if bcBad a b (rank a b) = true then 4 else cntE (bcL a b (rank a b))) := by simp [Hid, bcE, hE, hF]
      rw [hE] at hca
      rw [hF] at hcb
      clear hE hF
      have hl1 := HA.out.few
      have hl2 := HB.out.few
      by_cases hlt : a.length < b.length
      · skip
        have HR : Hid (b.length = rank a b) := by simp only [Hid, rank]; omega
        rw [← HR.out] at HEF
        have hb4 : i0.bytes * b.length ≤ 281474976710656 := by rw [hz2]; omega
        have hb5 : b.length ≤ maxLen := by simp only [maxLen]; omega
        go_enter Tryz.func56, Tryz.ntmps56
        go_wp2_with fail
        refine hca.out.mono ?_
        rintro e w' ⟨rfl, rfl⟩
        go_wp2_with fail
        refine hcb.out.mono ?_
        rintro e w' ⟨rfl, rfl⟩
        go_wp2_with (refine wpList_make_full _ rfl (.tmp 38) (.tmp 38) 35 rfl w.heap.size 3 i0 (.int .i64 0) 1 Tryz.underlying35 hi hz0 hz1 .i64 .i64 _ _ b.length rfl rfl rfl rfl hb4 hb5 (Nat.le_refl _) ?_; intro w1 hown hgrow)
        rw [made_zeros] at hown
        go_loopw [41] (fun i wr => w.grownBy wr none ∧ ∃ k : Nat, k ≤ b.length ∧ i = .int .i64 k ∧ bcBad a b k = false ∧
          wr.ownsRow w.heap.size 3 1 (.slice (some ⟨w.heap.size, 0, none⟩) b.length b.length) b.length ((backFill b.length k (bcL a b k)).map (Value.int .i64))) (fun i _ => b.length - (intOf i).toNat)
        case atStart => exact ⟨hgrow, 0, Nat.zero_le _, rfl, rfl, by simpa [backFill, bcL] using hown⟩
        case round =>
          clear hown hgrow
          obtain ⟨hw, k, hk, rfl, hbad, hown⟩ := hrel
          have HBAD := hide hbad
          clear hbad
          by_cases hkl : k < b.length
          · have hpa := behind_any _ a k _ (h0.out.more hw) (by omega)
            have hpb := behind_any _ b k _ (hu0.out.more hw) (by omega)
            have hp1 := bh_pos (k := k) HA.out.pos
            have hq1 := bh_pos (k := k) HB.out.pos
            have hbo := @bcBad_of a b k b.length hkl
            obtain ⟨p, hp⟩ : ∃ p, p = bh a k := ⟨_, rfl⟩
            obtain ⟨q, hq⟩ : ∃ q, q = bh b k := ⟨_, rfl⟩
            rw [← hp] at hpa hp1 hbo
            rw [← hq] at hpb hq1 hbo
            have HPA := hide hpa
            have HPB := hide hpb
            have HP := hide hp
            have HQ := hide hq
            have HBO := hide hbo
            clear hpa hpb hp hq hbo
            by_cases hap : apartAt p q = true
            · obtain ⟨t1, t2, t3⟩ := apart_cases p q hap
              have HE4 : Hid (bcE a b = 4) := by simp only [Hid]; rw [HEF.out, if_pos (HBO.out hap)]
              have n1 : (p != q) = true := by simp [bne, t1]
              have n2 : (p != 1) = true := by simp [bne, t2]
              have n3 : (q != 1) = true := by simp [bne, t3]
              clear hap t1 t2 t3
              go_wp2_with fail
              refine HPA.out.mono ?_
              rintro e w' ⟨rfl, rfl⟩
              go_wp2_with fail
              refine HPB.out.mono ?_
              rintro e w' ⟨rfl, rfl⟩
              go_wp2
              go_ret2
              exact ret_bc HE4.out (by decide) hw
            · have HNB : Hid (apartAt p q = false) := by simp only [Hid]; simpa using hap
              rcases (show p = q ∨ (p ≠ q ∧ p = 1) ∨ (p ≠ q ∧ p ≠ 1 ∧ q = 1) by
                simp only [apartAt, Bool.and_eq_true, Bool.not_eq_true', beq_eq_false_iff_ne, ne_eq] at hap; omega) with hc1 | ⟨hc1, hc2⟩ | ⟨hc1, hc2, hc3⟩
              · subst hc1
                obtain ⟨⟨c, hc⟩, hf, hown2, hw2⟩ := fill_step (z := p) hkl hw hown
                have HM : Hid (p = max p p) := by simp only [Hid]; omega
                have HO := hide hown2
                have HW := hide hw2
                clear hap
                clear hown hown2 hw2 hw
                go_wp2_with fail
                refine HPA.out.mono ?_
                rintro e w' ⟨rfl, rfl⟩
                go_wp2_with fail
                refine HPB.out.mono ?_
                rintro e w' ⟨rfl, rfl⟩
                go_wp2
                go_roundw
                case rel =>
                  refine ⟨HW.out, k + 1, by omega, by go_num, ?_, ?_⟩
                  · simp only [bcBad]
                    rw [← HP.out, ← HQ.out, HNB.out, HBAD.out]
                    rfl
                  · simp only [bcL]
                    rw [← HP.out, ← HQ.out, ← HM.out]
                    exact HO.out
                case measure => simp [intOf]; omega
              · subst hc2
                obtain ⟨⟨c, hc⟩, hf, hown2, hw2⟩ := fill_step (z := q) hkl hw hown
                have HM : Hid (q = max 1 q) := by simp only [Hid]; omega
                have HO := hide hown2
                have HW := hide hw2
                have n1 : 1 < q := by omega
                have n2 : ((1 : Int) != q) = true := by simp; omega
                clear hap hc1
                clear hown hown2 hw2 hw
                go_wp2_with fail
                refine HPA.out.mono ?_
                rintro e w' ⟨rfl, rfl⟩
                go_wp2_with fail
                refine HPB.out.mono ?_
                rintro e w' ⟨rfl, rfl⟩
                go_wp2
                go_roundw
                case rel =>
                  refine ⟨HW.out, k + 1, by omega, by go_num, ?_, ?_⟩
                  · simp only [bcBad]
                    rw [← HP.out, ← HQ.out, HNB.out, HBAD.out]
                    rfl
                  · simp only [bcL]
                    rw [← HP.out, ← HQ.out, ← HM.out]
                    exact HO.out
                case measure => simp [intOf]; omega
              · subst hc3
                obtain ⟨⟨c, hc⟩, hf, hown2, hw2⟩ := fill_step (z := p) hkl hw hown
                have HM : Hid (p = max p 1) := by simp only [Hid]; omega
                have HO := hide hown2
                have HW := hide hw2
                have n1 : 1 < p := by omega
                have n2 : (p != 1) = true := by simp; omega
                clear hap hc1 hc2
                clear hown hown2 hw2 hw
                go_wp2_with fail
                refine HPA.out.mono ?_
                rintro e w' ⟨rfl, rfl⟩
                go_wp2_with fail
                refine HPB.out.mono ?_
                rintro e w' ⟨rfl, rfl⟩
                go_wp2
                go_roundw
                case rel =>
                  refine ⟨HW.out, k + 1, by omega, by go_num, ?_, ?_⟩
                  · simp only [bcBad]
                    rw [← HP.out, ← HQ.out, HNB.out, HBAD.out]
                    rfl
                  · simp only [bcL]
                    rw [← HP.out, ← HQ.out, ← HM.out]
                    exact HO.out
                case measure => simp [intOf]; omega
          · have HOW : Hid (Owns wr w.heap.size (.slice (some ⟨w.heap.size, 0, none⟩) b.length b.length) (bcL a b b.length)) := by
              refine ⟨?_, by rw [bcL_length]; omega, bcL_wf h0.out.wf hu0.out.wf _⟩
              have := hown
              rw [show k = b.length by omega, show backFill b.length b.length (bcL a b b.length) = bcL a b b.length by simp [backFill]] at this
              rw [bcL_length]
              exact this
            have HB0 : Hid (bcBad a b b.length = false) := by simp only [Hid]; rw [show b.length = k by omega]; exact HBAD.out
            have hcc := count_any _ _ _ HOW.out.ints
            have hEE : bcE a b = cntE (bcL a b b.length) := by rw [HEF.out, if_neg (by rw [HB0.out]; decide)]
            by_cases hz : cntE (bcL a b b.length) = 0
            · rw [hz] at hcc hEE
              have HEE := hide hEE
              have HCC := hide hcc
              have HRR : Hid (bcR a b = bcL a b b.length) := by simp [Hid, bcR, hEE, ← HR.out]
              clear hcc hEE hz hown
              go_wp2_with fail
              refine HCC.out.mono ?_
              rintro e w' ⟨rfl, rfl⟩
              go_wp2
              go_ret2
              refine ⟨_, by rw [HEE.out]; rfl, ?_, hw⟩
              rw [HRR.out]
              exact HOW.out
            · have hz' := cntE_neq hz
              have HZ := hide hz
              have HEE := hide hEE
              have HCC := hide hcc
              obtain ⟨E, hE⟩ : ∃ E, E = cntE (bcL a b b.length) := ⟨_, rfl⟩
              rw [← hE] at hz' HZ HEE HCC
              clear hcc hEE hz hE hown
              go_wp2_with fail
              refine HCC.out.mono ?_
              rintro e w' ⟨rfl, rfl⟩
              go_wp2
              go_ret2
              exact ret_bc HEE.out HZ.out hw
      · skip
        have HR : Hid (a.length = rank a b) := by simp only [Hid, rank]; omega
        rw [← HR.out] at HEF
        have hb4 : i0.bytes * a.length ≤ 281474976710656 := by rw [hz2]; omega
        have hb5 : a.length ≤ maxLen := by simp only [maxLen]; omega
        go_enter Tryz.func56, Tryz.ntmps56
        go_wp2_with fail
        refine hca.out.mono ?_
        rintro e w' ⟨rfl, rfl⟩
        go_wp2_with fail
        refine hcb.out.mono ?_
        rintro e w' ⟨rfl, rfl⟩
        go_wp2_with (refine wpList_make_full _ rfl (.tmp 38) (.tmp 38) 35 rfl w.heap.size 3 i0 (.int .i64 0) 1 Tryz.underlying35 hi hz0 hz1 .i64 .i64 _ _ a.length rfl rfl rfl rfl hb4 hb5 (Nat.le_refl _) ?_; intro w1 hown hgrow)
        rw [made_zeros] at hown
        go_loopw [41] (fun i wr => w.grownBy wr none ∧ ∃ k : Nat, k ≤ a.length ∧ i = .int .i64 k ∧ bcBad a b k = false ∧
          wr.ownsRow w.heap.size 3 1 (.slice (some ⟨w.heap.size, 0, none⟩) a.length a.length) a.length ((backFill a.length k (bcL a b k)).map (Value.int .i64))) (fun i _ => a.length - (intOf i).toNat)
        case atStart => exact ⟨hgrow, 0, Nat.zero_le _, rfl, rfl, by simpa [backFill, bcL] using hown⟩
        case round =>
          clear hown hgrow
          obtain ⟨hw, k, hk, rfl, hbad, hown⟩ := hrel
          have HBAD := hide hbad
          clear hbad
          by_cases hkl : k < a.length
          · have hpa := behind_any _ a k _ (h0.out.more hw) (by omega)
            have hpb := behind_any _ b k _ (hu0.out.more hw) (by omega)
            have hp1 := bh_pos (k := k) HA.out.pos
            have hq1 := bh_pos (k := k) HB.out.pos
            have hbo := @bcBad_of a b k a.length hkl
            obtain ⟨p, hp⟩ : ∃ p, p = bh a k := ⟨_, rfl⟩
            obtain ⟨q, hq⟩ : ∃ q, q = bh b k := ⟨_, rfl⟩
            rw [← hp] at hpa hp1 hbo
            rw [← hq] at hpb hq1 hbo
            have HPA := hide hpa
            have HPB := hide hpb
            have HP := hide hp
            have HQ := hide hq
            have HBO := hide hbo
            clear hpa hpb hp hq hbo
            by_cases hap : apartAt p q = true
            · obtain ⟨t1, t2, t3⟩ := apart_cases p q hap
              have HE4 : Hid (bcE a b = 4) := by simp only [Hid]; rw [HEF.out, if_pos (HBO.out hap)]
              have n1 : (p != q) = true := by simp [bne, t1]
              have n2 : (p != 1) = true := by simp [bne, t2]
              have n3 : (q != 1) = true := by simp [bne, t3]
              clear hap t1 t2 t3
              go_wp2_with fail
              refine HPA.out.mono ?_
              rintro e w' ⟨rfl, rfl⟩
              go_wp2_with fail
              refine HPB.out.mono ?_
              rintro e w' ⟨rfl, rfl⟩
              go_wp2
              go_ret2
              exact ret_bc HE4.out (by decide) hw
            · have HNB : Hid (apartAt p q = false) := by simp only [Hid]; simpa using hap
              rcases (show p = q ∨ (p ≠ q ∧ p = 1) ∨ (p ≠ q ∧ p ≠ 1 ∧ q = 1) by
                simp only [apartAt, Bool.and_eq_true, Bool.not_eq_true', beq_eq_false_iff_ne, ne_eq] at hap; omega) with hc1 | ⟨hc1, hc2⟩ | ⟨hc1, hc2, hc3⟩
              · subst hc1
                obtain ⟨⟨c, hc⟩, hf, hown2, hw2⟩ := fill_step (z := p) hkl hw hown
                have HM : Hid (p = max p p) := by simp only [Hid]; omega
                have HO := hide hown2
                have HW := hide hw2
                clear hap
                clear hown hown2 hw2 hw
                go_wp2_with fail
                refine HPA.out.mono ?_
                rintro e w' ⟨rfl, rfl⟩
                go_wp2_with fail
                refine HPB.out.mono ?_
                rintro e w' ⟨rfl, rfl⟩
                go_wp2
                go_roundw
                case rel =>
                  refine ⟨HW.out, k + 1, by omega, by go_num, ?_, ?_⟩
                  · simp only [bcBad]
                    rw [← HP.out, ← HQ.out, HNB.out, HBAD.out]
                    rfl
                  · simp only [bcL]
                    rw [← HP.out, ← HQ.out, ← HM.out]
                    exact HO.out
                case measure => simp [intOf]; omega
              · subst hc2
                obtain ⟨⟨c, hc⟩, hf, hown2, hw2⟩ := fill_step (z := q) hkl hw hown
                have HM : Hid (q = max 1 q) := by simp only [Hid]; omega
                have HO := hide hown2
                have HW := hide hw2
                have n1 : 1 < q := by omega
                have n2 : ((1 : Int) != q) = true := by simp; omega
                clear hap hc1
                clear hown hown2 hw2 hw
                go_wp2_with fail
                refine HPA.out.mono ?_
                rintro e w' ⟨rfl, rfl⟩
                go_wp2_with fail
                refine HPB.out.mono ?_
                rintro e w' ⟨rfl, rfl⟩
                go_wp2
                go_roundw
                case rel =>
                  refine ⟨HW.out, k + 1, by omega, by go_num, ?_, ?_⟩
                  · simp only [bcBad]
                    rw [← HP.out, ← HQ.out, HNB.out, HBAD.out]
                    rfl
                  · simp only [bcL]
                    rw [← HP.out, ← HQ.out, ← HM.out]
                    exact HO.out
                case measure => simp [intOf]; omega
              · subst hc3
                obtain ⟨⟨c, hc⟩, hf, hown2, hw2⟩ := fill_step (z := p) hkl hw hown
                have HM : Hid (p = max p 1) := by simp only [Hid]; omega
                have HO := hide hown2
                have HW := hide hw2
                have n1 : 1 < p := by omega
                have n2 : (p != 1) = true := by simp; omega
                clear hap hc1 hc2
                clear hown hown2 hw2 hw
                go_wp2_with fail
                refine HPA.out.mono ?_
                rintro e w' ⟨rfl, rfl⟩
                go_wp2_with fail
                refine HPB.out.mono ?_
                rintro e w' ⟨rfl, rfl⟩
                go_wp2
                go_roundw
                case rel =>
                  refine ⟨HW.out, k + 1, by omega, by go_num, ?_, ?_⟩
                  · simp only [bcBad]
                    rw [← HP.out, ← HQ.out, HNB.out, HBAD.out]
                    rfl
                  · simp only [bcL]
                    rw [← HP.out, ← HQ.out, ← HM.out]
                    exact HO.out
                case measure => simp [intOf]; omega
          · have HOW : Hid (Owns wr w.heap.size (.slice (some ⟨w.heap.size, 0, none⟩) a.length a.length) (bcL a b a.length)) := by
              refine ⟨?_, by rw [bcL_length]; omega, bcL_wf h0.out.wf hu0.out.wf _⟩
              have := hown
              rw [show k = a.length by omega, show backFill a.length a.length (bcL a b a.length) = bcL a b a.length by simp [backFill]] at this
              rw [bcL_length]
              exact this
            have HB0 : Hid (bcBad a b a.length = false) := by simp only [Hid]; rw [show a.length = k by omega]; exact HBAD.out
            have hcc := count_any _ _ _ HOW.out.ints
            have hEE : bcE a b = cntE (bcL a b a.length) := by rw [HEF.out, if_neg (by rw [HB0.out]; decide)]
            by_cases hz : cntE (bcL a b a.length) = 0
            · rw [hz] at hcc hEE
              have HEE := hide hEE
              have HCC := hide hcc
              have HRR : Hid (bcR a b = bcL a b a.length) := by simp [Hid, bcR, hEE, ← HR.out]
              clear hcc hEE hz hown
              go_wp2_with fail
              refine HCC.out.mono ?_
              rintro e w' ⟨rfl, rfl⟩
              go_wp2
              go_ret2
              refine ⟨_, by rw [HEE.out]; rfl, ?_, hw⟩
              rw [HRR.out]
              exact HOW.out
            · have hz' := cntE_neq hz
              have HZ := hide hz
              have HEE := hide hEE
              have HCC := hide hcc
              obtain ⟨E, hE⟩ : ∃ E, E = cntE (bcL a b a.length) := ⟨_, rfl⟩
              rw [← hE] at hz' HZ HEE HCC
              clear hcc hEE hz hE hown
              go_wp2_with fail
              refine HCC.out.mono ?_
              rintro e w' ⟨rfl, rfl⟩
              go_wp2
              go_ret2
              exact ret_bc HEE.out HZ.out hw
    · have HEE : Hid (bcE a b = cntE b) := by simp [Hid, bcE, hE, hF]
      rw [hE] at hca
      have hz' := cntE_neq hF
      have HZ := hide hF
      obtain ⟨E, hEE⟩ : ∃ E, E = cntE b := ⟨_, rfl⟩
      rw [← hEE] at hz' HZ HEE hcb
      clear hE hF hEE
      go_enter Tryz.func56, Tryz.ntmps56
      go_wp2_with fail
      refine hca.out.mono ?_
      rintro e w' ⟨rfl, rfl⟩
      go_wp2_with fail
      refine hcb.out.mono ?_
      rintro e w' ⟨rfl, rfl⟩
      go_wp2
      go_ret2
      exact ret_bc HEE.out HZ.out (grown_refl _)
  · have HEE : Hid (bcE a b = cntE a) := by simp [Hid, bcE, hE]
    have hz' := cntE_neq hE
    have HZ := hide hE
    obtain ⟨E, hEE⟩ : ∃ E, E = cntE a := ⟨_, rfl⟩
    rw [← hEE] at hz' HZ HEE hca
    clear hE hEE
    go_enter Tryz.func56, Tryz.ntmps56
    go_wp2_with fail
    refine hca.out.mono ?_
    rintro e w' ⟨rfl, rfl⟩
    go_wp2
    go_ret2
    exact ret_bc HEE.out HZ.out (grown_refl _)

end Go.Proofs.YtabddmiffcnnjaaGreatDoor

namespace Go.Proofs.YtabddmiffcnnjaaGreatDoor

open Go.RowKit

theorem ints_new (w : World) (zs : List Int) (t : TypeId) (hl : zs.length * 8 ≤ 140737488351232) (hz : ∀ z ∈ zs, -9223372036854775808 ≤ z ∧ z ≤ 9223372036854775807) :
    IsInts (w.alloc (.cells (zs.map (Value.int .i64)).toArray t)) (.slice (some ⟨w.heap.size, 0, none⟩) zs.length zs.length) zs := by
  refine ⟨_, _, rfl, Nat.le_refl _, by omega, hl, (fun h => by cases h), fun _ => ⟨_, _, rfl, fun k hk => ?_⟩, hz⟩
  rw [Nat.zero_add, cell_of_row _ _ k _ _ (0, 0) (heap_alloc_new w _)]
  simp [List.getD, hk]

end Go.Proofs.YtabddmiffcnnjaaGreatDoor

namespace Go.Proofs.YtabddmiffcnnjaaGreatDoor

open Go.RowKit

def foreFill (n k : Nat) (l : List Int) : List Int := l.take k ++ List.replicate (n - k) 0

theorem foreFill_step {n k : Nat} {l : List Int} (hk : k < n) (hl : l.length = n) (z : Int) (hz : z = l.getD k 0) : (foreFill n k l).set k z = foreFill n (k + 1) l := by
  unfold foreFill
  rw [take_step l k (by omega), ← hz, List.set_append_right _ _ (by simp; omega), show n - k = (n - (k + 1)) + 1 by omega, List.replicate_succ]
  simp [show min k l.length = k by omega]

theorem fore_step {w wr : World} {n k : Nat} {l : List Int} {z : Int} (hk : k < n) (hl : l.length = n) (hz : z = l.getD k 0) (hw : w.grownBy wr none)
    (hown : wr.ownsRow w.heap.size 3 1 (.slice (some ⟨w.heap.size, 0, none⟩) n n) n ((foreFill n k l).map (Value.int .i64))) :
    (∃ c, wr.cell? ⟨w.heap.size, k, none⟩ = some c) ∧ wr.frozen? ⟨w.heap.size, k, none⟩ = false ∧
    (wr.setCell ⟨w.heap.size, k, none⟩ (.int .i64 z)).ownsRow w.heap.size 3 1 (.slice (some ⟨w.heap.size, 0, none⟩) n n) n ((foreFill n (k + 1) l).map (Value.int .i64)) ∧
    w.grownBy (wr.setCell ⟨w.heap.size, k, none⟩ (.int .i64 z)) none := by
  have hl' := hown.1
  refine ⟨⟨_, by rw [hown.cellAt k (by omega), List.getElem?_eq_getElem (by omega)]⟩, hown.frozenAt _, ?_, grown_trans_row hw (hown.stored k (.int .i64 z)).2 (fun g hg => by injection hg with hg; omega)⟩
  have := (hown.stored k (.int .i64 z)).1
  rw [map_set_int, foreFill_step hk hl z hz] at this
  exact this

end Go.Proofs.YtabddmiffcnnjaaGreatDoor

namespace Go.Proofs.YtabddmiffcnnjaaGreatDoor

open Go.RowKit

theorem le_prod : ∀ {zs : List Int}, (∀ z ∈ zs, 1 ≤ z) → ∀ z ∈ zs, z ≤ prod zs
  | y :: zs, h, z, hz => by
    have h1 := h y (by simp)
    have h2 := prod_pos zs (fun x hx => h x (by simp [hx]))
    rcases List.mem_cons.1 hz with rfl | hz
    · have := le_mul_right h2 (show 0 ≤ z by omega)
      simpa [prod] using this
    · have h3 := le_prod (fun x hx => h x (by simp [hx])) z hz
      have h4 := le_mul_left h1 (show 0 ≤ prod zs by omega)
      simp only [prod]
      omega

end Go.Proofs.YtabddmiffcnnjaaGreatDoor

namespace Go.Proofs.YtabddmiffcnnjaaGreatDoor.Vw

open Go.RowKit

def IsView (w : World) (v : Value) (off : Int) (ds ss : List Int) : Prop :=
  ∃ dv sv, v = .agg #[.int .i64 off, dv, sv] ∧ IsInts w dv ds ∧ IsInts w sv ss ∧ -9223372036854775808 ≤ off ∧ off ≤ 9223372036854775807

theorem IsView.more {w w' : World} {v : Value} {off : Int} {ds ss : List Int} (h : IsView w v off ds ss) (hg : w.grownBy w' none) : IsView w' v off ds ss := by
  obtain ⟨dv, sv, rfl, hd, hs, ho⟩ := h
  exact ⟨dv, sv, rfl, hd.more hg, hs.more hg, ho⟩

def mayB (off : Int) (ds ss : List Int) : Bool := decide (cntE ds = 0) && (decide (ss.length = ds.length) && (decide (0 ≤ off ∧ off ≤ 65535) && ss.all (fun s => decide (0 ≤ s ∧ s ≤ 65536))))

structure MayV (off : Int) (ds ss : List Int) : Prop where
  fine : Fine ds
  len : ss.length = ds.length
  lo : 0 ≤ off
  hi : off ≤ 65535
  str : ∀ s ∈ ss, 0 ≤ s ∧ s ≤ 65536

theorem mayB_iff {off : Int} {ds ss : List Int} : mayB off ds ss = true ↔ MayV off ds ss := by
  unfold mayB
  simp only [Bool.and_eq_true, decide_eq_true_eq, List.all_eq_true]
  exact ⟨fun ⟨h1, h2, h3, h4⟩ => ⟨fine_of h1, h2, h3.1, h3.2, h4⟩, fun h => ⟨h.fine.ok, h.len, ⟨h.lo, h.hi⟩, h.str⟩⟩

theorem mayB_false {off : Int} {ds ss : List Int} (h : ¬ MayV off ds ss) : mayB off ds ss = false := by
  rw [Bool.eq_false_iff]
  exact fun h' => h (mayB_iff.1 h')

theorem further_any (p s t : Int) (w : World) (h1 : -4611686018427387904 ≤ p ∧ p ≤ 4611686018427387904) (h2 : -4611686018427387904 ≤ s * t ∧ s * t ≤ 4611686018427387903) (_hs : -9223372036854775808 ≤ s ∧ s ≤ 9223372036854775807) (_ht : -9223372036854775808 ≤ t ∧ t ≤ 9223372036854775807) :
    Calls Tryz.prog 239 #[.int .i64 p, .int .i64 s, .int .i64 t] w fun e w' => e = .returned (.int .i64 (p + s * t)) ∧ w = w' := by
  obtain ⟨h11, h12⟩ := h1
  obtain ⟨h21, h22⟩ := h2
  go_enter Tryz.func239, Tryz.ntmps239
  go_wp2
  go_ret
  exact ⟨rfl, rfl⟩

set_option maxHeartbeats 800000 in
theorem mayBe_any (v : Value) (off : Int) (ds ss : List Int) (w : World) (h : IsView w v off ds ss) :
    Calls Tryz.prog 55 #[v] w fun e w' => e = .returned (.bool (mayB off ds ss)) ∧ w.grownBy w' none := by
  obtain ⟨dv, sv, rfl, hd, hs, ho1, ho2⟩ := h
  have hg := grown_new w (.cells #[.int .i64 off, dv, sv] 70)
  have hc := count_any dv ds _ (hd.more hg)
  have HS := hide (hs.more hg)
  obtain ⟨ao, cap, rfl, h1, h2, h3, -, -, -⟩ := hd
  obtain ⟨bo, bcap, rfl, hb1, hb2, hb3, -, -, -⟩ := hs
  by_cases hE : cntE ds = 0
  · rw [hE] at hc
    have HC := hide hc
    by_cases hl : ss.length = ds.length
    · have hl' : ((ss.length : Int) != (ds.length : Int)) = false := by simp [hl]
      by_cases ho : 0 ≤ off ∧ off ≤ 65535
      · have HM : Hid (mayB off ds ss = ss.all (fun s => decide (0 ≤ s ∧ s ≤ 65536))) := by simp [Hid, mayB, hE, hl, ho]
        obtain ⟨ho3, ho4⟩ := ho
        clear hE hl hc
        go_enter Tryz.func55, Tryz.ntmps55
        go_wp2_with fail
        refine HC.out.mono ?_
        rintro e w' ⟨rfl, rfl⟩
        go_wp2
        go_loopw [35] (fun i wr => wr = w.alloc (.cells #[.int .i64 off, .slice ao ds.length cap, .slice bo ss.length bcap] 70) ∧ ∃ k : Nat, k ≤ ss.length ∧ i = .int .i64 k ∧ ∀ t, t < k → 0 ≤ ss.getD t 0 ∧ ss.getD t 0 ≤ 65536) (fun i _ => ss.length - (intOf i).toNat)
        case atStart => exact ⟨rfl, 0, Nat.zero_le _, rfl, fun t h => absurd h (by omega)⟩
        case round =>
          obtain ⟨hw, k, hk, rfl, hp⟩ := hrel
          subst hw
          have HP := hide hp
          clear hp
          by_cases hkl : k < ss.length
          · obtain ⟨b, o', rfl⟩ := addr_of HS.out (by omega)
            have hcell := item_at HS.out hkl
            obtain ⟨z, hz⟩ : ∃ z, z = ss.getD k 0 := ⟨_, rfl⟩
            rw [← hz] at hcell
            have HZ := hide hz
            clear hz
            by_cases hz0 : 0 ≤ z ∧ z ≤ 65536
            · obtain ⟨hz1, hz2⟩ := hz0
              go_wp2
              go_roundw
              case rel =>
                refine ⟨by trivial, k + 1, by omega, by go_num, fun t ht => ?_⟩
                rcases lt_succ_cases ht with h | rfl
                · exact HP.out t h
                · have := HZ.out; omega
              case measure => simp [intOf]; omega
            · have HF : Hid (ss.all (fun s => decide (0 ≤ s ∧ s ≤ 65536)) = false) := by
                simp only [Hid]
                rw [Bool.eq_false_iff]
                intro h
                rw [List.all_eq_true] at h
                have := h z (by rw [HZ.out, List.getD, List.getElem?_eq_getElem hkl]; simp)
                simp only [decide_eq_true_eq] at this
                exact hz0 this
              by_cases hz1 : z < 0
              · clear hz0
                go_wp2
                go_ret
                exact ⟨by rw [HM.out, HF.out]; rfl, hg⟩
              · have hz2 : 65536 < z := by omega
                clear hz0
                go_wp2
                go_ret
                exact ⟨by rw [HM.out, HF.out]; rfl, hg⟩
          · have HT : Hid (ss.all (fun s => decide (0 ≤ s ∧ s ≤ 65536)) = true) := by
              simp only [Hid]
              rw [List.all_eq_true]
              exact fun z hz => decide_eq_true (all_of (p := fun s => 0 ≤ s ∧ s ≤ 65536) (fun t ht => HP.out t (by omega)) z hz)
            go_wp2
            go_ret
            exact ⟨by rw [HM.out, HT.out]; rfl, hg⟩
      · have HM : Hid (mayB off ds ss = false) := mayB_false fun h => ho ⟨h.lo, h.hi⟩
        by_cases ho3 : off < 0
        · clear hE hl hc ho
          go_enter Tryz.func55, Tryz.ntmps55
          go_wp2_with fail
          refine HC.out.mono ?_
          rintro e w' ⟨rfl, rfl⟩
          go_wp2
          go_ret
          exact ⟨by rw [HM.out]; rfl, hg⟩
        · have ho4 : 65535 < off := by omega
          clear hE hl hc ho
          go_enter Tryz.func55, Tryz.ntmps55
          go_wp2_with fail
          refine HC.out.mono ?_
          rintro e w' ⟨rfl, rfl⟩
          go_wp2
          go_ret
          exact ⟨by rw [HM.out]; rfl, hg⟩
    · have HM : Hid (mayB off ds ss = false) := mayB_false fun h => hl h.len
      have hl' : ((ss.length : Int) != (ds.length : Int)) = true := by simp; omega
      clear hE hl hc
      go_enter Tryz.func55, Tryz.ntmps55
      go_wp2_with fail
      refine HC.out.mono ?_
      rintro e w' ⟨rfl, rfl⟩
      go_wp2
      go_ret
      exact ⟨by rw [HM.out]; rfl, hg⟩
  · have HM : Hid (mayB off ds ss = false) := mayB_false fun h => hE h.fine.ok
    have hE' := beq_zero_false hE
    obtain ⟨E, hEE⟩ : ∃ E, E = cntE ds := ⟨_, rfl⟩
    rw [← hEE] at hE' hc
    have HC := hide hc
    clear hE hEE hc
    go_enter Tryz.func55, Tryz.ntmps55
    go_wp2_with fail
    refine HC.out.mono ?_
    rintro e w' ⟨rfl, rfl⟩
    go_wp2
    go_ret
    exact ⟨by rw [HM.out]; rfl, hg⟩

end Go.Proofs.YtabddmiffcnnjaaGreatDoor.Vw

namespace Go.Proofs.YtabddmiffcnnjaaGreatDoor.Vw

open Go.RowKit

theorem equal_any (v u : Value) (xs ys : List Int) (w : World) (ha : IsInts w v xs) (hb : IsInts w u ys) :
    Calls Tryz.prog 57 #[v, u] w fun e w' => e = .returned (.bool (decide (xs = ys))) ∧ w.grownBy w' none := by
  have ha0 : Hid (IsInts w v xs) := ha
  have hb0 : Hid (IsInts w u ys) := hb
  obtain ⟨ao, acap, rfl, ha1, ha2, ha3, -, -, -⟩ := ha
  obtain ⟨bo, bcap, rfl, hb1, hb2, hb3, -, -, -⟩ := hb
  by_cases hl : xs.length = ys.length
  · have hl' : ((xs.length : Int) == (ys.length : Int)) = true := by simp [hl]
    have HL : Hid (xs.length = ys.length) := hl
    clear hl
    go_enter Tryz.func57, Tryz.ntmps57
    go_wp2
    go_loopw [13] (fun i wr => w.grownBy wr none ∧ ∃ k : Nat, k ≤ xs.length ∧ i = .int .i64 k ∧ ∀ t, t < k → xs.getD t 0 = ys.getD t 0) (fun i _ => xs.length - (intOf i).toNat)
    case atStart => exact ⟨grown_refl _, 0, Nat.zero_le _, rfl, fun t h => absurd h (by omega)⟩
    case round =>
      obtain ⟨hw, k, hk, rfl, hp⟩ := hrel
      have HP : Hid (∀ t, t < k → xs.getD t 0 = ys.getD t 0) := hp
      clear hp
      by_cases hkl : k < xs.length
      · obtain ⟨_, _, he, -, -, -, -, h5, -⟩ := ha0.out.more hw
        obtain ⟨b, off, ho, hc⟩ := h5 (by omega)
        obtain ⟨_, _, he', -, -, -, -, h5', -⟩ := hb0.out.more hw
        have hbl : k < ys.length := by have := HL.out; omega
        obtain ⟨b', off', ho', hc'⟩ := h5' (by omega)
        simp only [Value.slice.injEq, true_and] at he he'
        obtain ⟨rfl, rfl⟩ := he
        obtain ⟨rfl, rfl⟩ := he'
        subst ho ho'
        obtain ⟨z, hz⟩ : ∃ z, z = xs.getD k 0 := ⟨_, rfl⟩
        obtain ⟨y, hy⟩ : ∃ y, y = ys.getD k 0 := ⟨_, rfl⟩
        have hcell := hc k hkl
        have hcell' := hc' k hbl
        rw [← hz] at hcell
        rw [← hy] at hcell'
        have HZ : Hid (z = xs.getD k 0) := hz
        have HY : Hid (y = ys.getD k 0) := hy
        clear hz hc hy hc'
        by_cases hzy : z = y
        · have hzy' : (z == y) = true := by simp [hzy]
          have HE : Hid (z = y) := hzy
          clear hzy h5 h5'
          go_wp2
          go_region
          all_goals go_wp2
          all_goals
            go_roundw
            case rel =>
              refine ⟨grown_drew hw, k + 1, by omega, by go_num, fun t ht => ?_⟩
              rcases lt_succ_cases ht with h | rfl
              · exact HP.out t h
              · have := HZ.out; have := HY.out; have := HE.out; omega
            case measure => simp [intOf]; omega
        · have hzy' : (z == y) = false := by simp [hzy]
          have HE : Hid (xs ≠ ys) := fun h => hzy (by rw [HZ.out, HY.out, h])
          clear hzy h5 h5'
          go_wp2
          go_region
          all_goals go_wp2
          all_goals go_ret
          all_goals exact ⟨by rw [decide_eq_false HE.out]; rfl, grown_drew hw⟩
      · have HE : Hid (xs = ys) := list_eq_of HL.out (fun t ht => HP.out t (by omega))
        go_wp2
        go_ret
        exact ⟨by rw [decide_eq_true HE.out]; rfl, hw⟩
  · have hl' : ((xs.length : Int) == (ys.length : Int)) = false := by simp; omega
    have HE : Hid (xs ≠ ys) := fun h => hl (by rw [h])
    clear hl
    go_enter Tryz.func57, Tryz.ntmps57
    go_wp2
    go_ret
    exact ⟨by rw [decide_eq_false HE.out]; rfl, grown_refl _⟩

end Go.Proofs.YtabddmiffcnnjaaGreatDoor.Vw

namespace Go.Proofs.YtabddmiffcnnjaaGreatDoor.Vw

def lst : List Int → List Int → Int
  | d :: ds, s :: ss => (d - 1) * s + lst ds ss
  | _, _ => 0

def plc : List Int → List Int → Int → List Int
  | [], _, p => [p]
  | d :: ds, s :: ss, p => (List.range d.toNat).flatMap (fun (i : Nat) => plc ds ss (p + i * s))
  | _ :: _, [], _ => []

theorem flat_length {α : Type} (f : Nat → List α) (n : Nat) : ∀ (t : Nat), (∀ i, i < t → (f i).length = n) → ((List.range t).flatMap f).length = t * n
  | 0, _ => by simp
  | t + 1, h => by
    rw [List.range_succ, List.flatMap_append, List.length_append, flat_length f n t fun i hi => h i (by omega)]
    simp only [List.flatMap_cons, List.flatMap_nil, List.append_nil, h t (by omega)]
    rw [Nat.add_mul, Nat.one_mul]

theorem plc_length : ∀ (ds ss : List Int) (p : Int), ss.length = ds.length → (∀ d ∈ ds, 1 ≤ d) → (plc ds ss p).length = (prod ds).toNat
  | [], _, _, _, _ => by simp [plc, prod]
  | d :: ds, s :: ss, p, hl, hp => by
    have h1 := hp d (by simp)
    have h2 := prod_pos ds fun y hy => hp y (by simp [hy])
    rw [plc, flat_length _ (prod ds).toNat _ fun i _ => plc_length ds ss _ (by simpa using hl) fun y hy => hp y (by simp [hy]), prod]
    obtain ⟨a, rfl⟩ : ∃ a : Nat, d = a := ⟨d.toNat, by omega⟩
    obtain ⟨b, hb⟩ : ∃ b : Nat, prod ds = b := ⟨(prod ds).toNat, by omega⟩
    rw [hb, ← Int.natCast_mul]
    simp only [Int.toNat_natCast]
  | _ :: _, [], _, hl, _ => by simp at hl

theorem lst_nonneg : ∀ (ds ss : List Int), (∀ d ∈ ds, 1 ≤ d) → (∀ s ∈ ss, 0 ≤ s) → 0 ≤ lst ds ss
  | [], _, _, _ => by simp [lst]
  | _ :: _, [], _, _ => by simp [lst]
  | d :: ds, s :: ss, hd, hs => by
    have h1 := hd d (by simp)
    have h2 := hs s (by simp)
    have h3 := lst_nonneg ds ss (fun y hy => hd y (by simp [hy])) (fun y hy => hs y (by simp [hy]))
    have h4 : 0 ≤ (d - 1) * s := Int.mul_nonneg (by omega) h2
    simp only [lst]
    omega

theorem step_bound {d s : Int} {i : Nat} (hi : (i : Int) < d) (hs : 0 ≤ s) : 0 ≤ (i : Int) * s ∧ (i : Int) * s ≤ (d - 1) * s :=
  ⟨Int.mul_nonneg (by omega) hs, Int.mul_le_mul_of_nonneg_right (by omega) hs⟩

theorem plc_mem : ∀ (ds ss : List Int) (p : Int), (∀ s ∈ ss, 0 ≤ s) → (∀ d ∈ ds, 1 ≤ d) → ∀ x ∈ plc ds ss p, p ≤ x ∧ x ≤ p + lst ds ss
  | [], ss, p, _, _, x, hx => by
    simp only [plc, List.mem_singleton] at hx
    simp [lst, hx]
  | d :: ds, s :: ss, p, hs, hd, x, hx => by
    simp only [plc, List.mem_flatMap, List.mem_range] at hx
    obtain ⟨i, hi, hx⟩ := hx
    have h1 := hd d (by simp)
    have h2 := hs s (by simp)
    obtain ⟨h3, h4⟩ := plc_mem ds ss _ (fun y hy => hs y (by simp [hy])) (fun y hy => hd y (by simp [hy])) x hx
    obtain ⟨h5, h6⟩ := step_bound (d := d) (i := i) (by omega) h2
    simp only [lst]
    omega
  | _ :: _, [], _, _, _, x, hx => by simp [plc] at hx

theorem range_prefix {α : Type} (f : Nat → List α) {t n : Nat} (h : t < n) {q : List α} (hq : q <+: f t) : (List.range t).flatMap f ++ q <+: (List.range n).flatMap f := by
  obtain ⟨r, hr⟩ := hq
  have e : List.range n = List.range t ++ (t :: (List.range (n - t - 1)).map (fun i => t + 1 + i)) := by
    have e1 : n = t + (1 + (n - t - 1)) := by omega
    rw [e1, List.range_add, List.range_add]
    simp [Nat.add_assoc, Function.comp_def]
  rw [e, List.flatMap_append, List.flatMap_cons, ← hr]
  refine ⟨r ++ ((List.range (n - t - 1)).map (fun i => t + 1 + i)).flatMap f, ?_⟩
  simp [List.append_assoc]

theorem range_flat_succ {α : Type} (f : Nat → List α) (t : Nat) : (List.range (t + 1)).flatMap f = (List.range t).flatMap f ++ f t := by
  rw [List.range_succ, List.flatMap_append]
  simp

theorem lst_drop {ds ss : List Int} (hl : ss.length = ds.length) {k : Nat} (hk : k < ds.length) : lst (ds.drop k) (ss.drop k) = (ds.getD k 0 - 1) * ss.getD k 0 + lst (ds.drop (k + 1)) (ss.drop (k + 1)) := by
  rw [drop_step ds k hk, drop_step ss k (by omega)]
  rfl

theorem plc_drop {ds ss : List Int} (hl : ss.length = ds.length) {k : Nat} (hk : k < ds.length) (p : Int) :
    plc (ds.drop k) (ss.drop k) p = (List.range (ds.getD k 0).toNat).flatMap (fun (i : Nat) => plc (ds.drop (k + 1)) (ss.drop (k + 1)) (p + i * ss.getD k 0)) := by
  rw [drop_step ds k hk, drop_step ss k (by omega)]
  rfl

theorem plc_end {ds ss : List Int} {k : Nat} (hk : ds.length ≤ k) (p : Int) : plc (ds.drop k) (ss.drop k) p = [p] := by
  rw [List.drop_of_length_le hk]
  rfl

end Go.Proofs.YtabddmiffcnnjaaGreatDoor.Vw
