/- ShapeNext, by the walk. -/
import Derived.Test.YtfamjlikpoiecaaLBackW
import Derived.Deep.RegionWith
namespace Go.Proofs.Ytfamjlikpoiecaa
open Go.RowKit

theorem crds_at : ∀ (zs : List Int) (n : Int) (k : Nat), k < zs.length → (crds zs n).getD k 0 = n / prod (zs.drop (k + 1)) % zs.getD k 0
  | z :: zs, n, 0, _ => by simp [crds, List.getD]
  | z :: zs, n, k + 1, h => by
    have := crds_at zs n k (by simpa using h)
    simpa [crds, List.getD] using this

theorem crds_take_eq : ∀ (zs : List Int) (n m : Int) (j : Nat), (∀ z ∈ zs, 1 ≤ z) → j ≤ zs.length → n / prod (zs.drop j) = m / prod (zs.drop j) → (crds zs n).take j = (crds zs m).take j
  | _, _, _, 0, _, _, _ => by simp
  | [], _, _, _ + 1, _, h, _ => by simp at h
  | z :: zs, n, m, j + 1, hp, h, e => by
    have hp' : ∀ y ∈ zs, 1 ≤ y := fun y hy => hp y (by simp [hy])
    have e' : n / prod (zs.drop j) = m / prod (zs.drop j) := by simpa using e
    have ih := crds_take_eq zs n m j hp' (by simpa using h) e'
    have hq : prod zs = prod (zs.drop j) * prod (zs.take j) := by
      rw [Int.mul_comm, ← prod_append, List.take_append_drop]
    have hd := prod_pos _ (pos_drop hp' j)
    have e2 : n / prod zs = m / prod zs := by
      rw [hq, ← Int.ediv_ediv_of_nonneg (by omega), ← Int.ediv_ediv_of_nonneg (by omega), e']
    simp only [crds, List.take_succ_cons, ih, e2]

theorem last_one {Q d : Int} (hd : 1 ≤ d) (h : Q % d = d - 1) : (Q + 1) % d = 0 ∧ (Q + 1) / d = Q / d + 1 := by
  have e := Int.mul_ediv_add_emod Q d
  rw [h] at e
  have e2 : Q + 1 = (Q / d + 1) * d := by rw [Int.add_mul, Int.mul_comm (Q / d)]; omega
  rw [e2]
  exact ⟨Int.mul_emod_left _ _, Int.mul_ediv_cancel _ (by omega)⟩

theorem not_last {Q d : Int} (hd : 1 ≤ d) (h : ¬ Q % d = d - 1) : (Q + 1) % d = Q % d + 1 ∧ (Q + 1) / d = Q / d := by
  have e := Int.mul_ediv_add_emod Q d
  have h1 := Int.emod_nonneg Q (show d ≠ 0 by omega)
  have h2 := Int.emod_lt_of_pos Q (show 0 < d by omega)
  have e2 : Q + 1 = (Q % d + 1) + d * (Q / d) := by omega
  rw [e2]
  refine ⟨?_, ?_⟩
  · rw [Int.add_mul_emod_self_left, Int.emod_eq_of_lt (by omega) (by omega)]
  · rw [Int.add_mul_ediv_left _ _ (by omega), Int.ediv_eq_zero_of_lt (by omega) (by omega)]
    omega

set_option maxHeartbeats 1600000 in
theorem next_walk (v : Value) (zs : List Int) (n : Int) (hn0 : -9223372036854775808 ≤ n) (hn1 : n ≤ 9223372036854775807) (w : World) (h : IsInts w v zs) :
    Calls Try.prog 7 #[v, .int .i64 n] w fun e w' => e = .returned (.bool true) ∧ Below w.heap.size w w' := by
  have h0 := hide h
  by_cases hr : 0 ≤ n ∧ n < 65536
  · have hr1 := hr.1
    have hr2 := hr.2
    clear hr
    have c1 := hide (coords_any v zs n w h hn0 hn1)
    by_cases hE : crdsE zs n = 0
    · rw [hE, show crdsL zs n = crds zs n by simp [crdsL, hE]] at c1
      by_cases hF : crdsE zs (n + 1) = 0
      · obtain ⟨hFine, -, hlt1⟩ := crdsE_ok hE
        obtain ⟨-, -, hlt⟩ := crdsE_ok hF
        have HF := hide hFine
        have HL := hide hlt
        have HFE := hide (show crdsL zs (n + 1) = crds zs (n + 1) by simp [crdsL, hF])
        have HFF := hide hF
        clear hE hF hFine hlt hlt1
        obtain ⟨ao, cap, rfl, h1, h2, h3, -, -, -⟩ := h
        have hla : (((crds zs n).length : Int) == (zs.length : Int)) = true := by rw [crds_length]; simp
        have hlb : (((crds zs (n + 1)).length : Int) == (zs.length : Int)) = true := by rw [crds_length]; simp
        have hla' : (((crds zs n).length : Int) != (zs.length : Int)) = false := by rw [crds_length]; simp
        have hlb' : (((crds zs (n + 1)).length : Int) != (zs.length : Int)) = false := by rw [crds_length]; simp
        go_enter Try.func7, Try.ntmps7
        go_wp2_with fail
        refine c1.out.mono ?_
        rintro e w1 ⟨a, rfl, oa, hg1⟩
        have OA := hide oa.ints
        have c2 := hide (coords_any _ zs (n + 1) w1 (h0.out.more hg1) (by omega) (by omega))
        rw [HFF.out, HFE.out] at c2
        clear oa
        go_wp2_with fail
        refine c2.out.mono ?_
        rintro e w2 ⟨b, rfl, ob, hg2⟩
        have OB := hide ob.ints
        have OA2 := hide (OA.out.more hg2)
        have g02 := grown_trans hg1 hg2
        have A0 := hide (h0.out.more g02)
        obtain ⟨a0, acap, rfl, ha1, ha2, ha3, -, -, -⟩ := OA.out
        obtain ⟨b0, bcap, rfl, hb1, hb2, hb3, -, -, -⟩ := OB.out
        clear ob OA
        go_wp2
        go_loopw [9] (fun i wr => w2.grownBy wr none ∧ ∃ q : Int, i = .int .i64 q ∧ -1 ≤ q ∧ q < zs.length ∧ (n + 1) / prod (zs.drop (q + 1).toNat) = n / prod (zs.drop (q + 1).toNat) + 1) (fun i _ => (intOf i + 1).toNat)
        case atStart => exact ⟨grown_refl _, (zs.length : Int) - 1, rfl, by omega, by omega, by rw [show ((zs.length : Int) - 1 + 1).toNat = zs.length by omega]; simp [prod]⟩
        case round =>
          obtain ⟨hw, q, rfl, hq0, hq1, hinv⟩ := hrel
          rcases Int.lt_or_le q 0 with hq | hq
          · exfalso
            rw [show (q + 1).toNat = 0 by omega, List.drop_zero, Int.ediv_eq_zero_of_lt (by omega) HL.out, Int.ediv_eq_zero_of_lt (by omega) (by have := HL.out; omega)] at hinv
            omega
          · obtain ⟨j, rfl⟩ := Int.eq_ofNat_of_zero_le hq
            have hjl : j < zs.length := by omega
            rw [show ((j : Int) + 1).toNat = j + 1 by omega] at hinv
            have hd1 := HF.out.at j hjl
            have hP := (HF.out.drop (j + 1)).prod_pos
            have ea := crds_at zs n j hjl
            have eb := crds_at zs (n + 1) j hjl
            rw [hinv] at eb
            have hst := prod_drop_step zs j hjl
            have hdl : zs.getD j 0 ≤ 65536 := by
              have := le_prod HF.out.pos (zs.getD j 0) (by rw [List.getD, List.getElem?_eq_getElem hjl]; simp)
              have := HF.out.le
              omega
            obtain ⟨bz, oz, rfl⟩ := addr_of h0.out (by omega)
            obtain ⟨ba, oa, hoa⟩ := addr_of OA2.out (by rw [crds_length]; omega)
            obtain ⟨bb, obb, hob⟩ := addr_of OB.out (by rw [crds_length]; omega)
            subst hoa hob
            have iz := item_at (A0.out.more hw) hjl
            have ia := item_at (OA2.out.more hw) (k := j) (by rw [crds_length]; omega)
            have ib := item_at (OB.out.more hw) (k := j) (by rw [crds_length]; omega)
            have hjA : j < (crds zs n).length := by rw [crds_length]; omega
            have hjB : j < (crds zs (n + 1)).length := by rw [crds_length]; omega
            rw [ea] at ia
            rw [eb] at ib
            obtain ⟨d, hd⟩ : ∃ d, d = zs.getD j 0 := ⟨_, rfl⟩
            obtain ⟨Q, hQ⟩ : ∃ Q, Q = n / prod (zs.drop (j + 1)) := ⟨_, rfl⟩
            rw [← hd] at iz ia ib hd1 hst hdl
            rw [← hQ] at ia ib hinv
            have HS := hide hst
            have HI := hide hinv
            have HQ := hide hQ
            have hm0 := Int.emod_nonneg Q (show d ≠ 0 by omega)
            have hm1 := Int.emod_lt_of_pos Q (show 0 < d by omega)
            clear ea eb hst hinv hd hQ hq hq0 hq1
            have hge : decide ((0 : Int) ≤ (j : Int)) = true := by simp
            by_cases hl : Q % d = d - 1
            · obtain ⟨m1, m2⟩ := last_one hd1 hl
              rw [m1] at ib
              rw [hl] at ia
              have HM := hide m2
              clear hl m1 m2 hm0 hm1
              go_wp2
              go_region
              all_goals go_wp2
              go_roundw
              case rel =>
                refine ⟨grown_drew hw, (j : Int) - 1, by go_num, by omega, by omega, ?_⟩
                rw [show ((j : Int) - 1 + 1).toNat = j by omega, HS.out, Int.mul_comm d, ← Int.ediv_ediv_of_nonneg (by omega), ← Int.ediv_ediv_of_nonneg (by omega), HI.out, ← HQ.out, HM.out]
              case measure => simp [intOf]
            · obtain ⟨m1, m2⟩ := not_last hd1 hl
              rw [m1] at ib
              have HM := hide m2
              have hne : (Q % d == d - 1) = false := by simpa using hl
              obtain ⟨r, hrr⟩ : ∃ r, r = Q % d := ⟨_, rfl⟩
              rw [← hrr] at ia ib hne hm0 hm1
              have HT : Hid ((crds zs n).take j = (crds zs (n + 1)).take j) := by
                refine crds_take_eq zs n (n + 1) j HF.out.pos (by omega) ?_
                rw [HS.out, Int.mul_comm d, ← Int.ediv_ediv_of_nonneg (by omega), ← Int.ediv_ediv_of_nonneg (by omega), HI.out, ← HQ.out, HM.out]
              have hlt0 : decide ((j : Int) < 0) = false := by simp
              have hneq : (r + 1 != r + 1) = false := by simp
              have SA : Hid (∀ wx, w2.grownBy wx none → Calls Try.prog 14 #[.slice (some ⟨ba, oa, none⟩) j acap, .slice (some ⟨bb, obb, none⟩) j bcap] wx fun e w' => e = .returned (.bool true) ∧ wx.grownBy w' none) := by
                intro wx hx
                have s1 := sub_ints (OA2.out.more hx) 0 j (o' := oa) (n' := j) (c' := acap) (by rw [crds_length]; omega) rfl (by omega) (by omega) (by omega)
                have s2 := sub_ints (OB.out.more hx) 0 j (o' := obb) (n' := j) (c' := bcap) (by rw [crds_length]; omega) rfl (by omega) (by omega) (by omega)
                have s3 := same_any _ _ _ _ wx s1 s2
                rw [List.drop_zero, List.drop_zero, decide_eq_true HT.out] at s3
                exact s3
              clear hl m1 m2 hrr
              go_wp2
              go_region
              all_goals go_wp2
              go_region
              all_goals go_wp2
              have hw3 := grown_drew (grown_drew (grown_drew hw))
              go_region_with (first | (go_at_call 14; refine (SA.out _ (by exact hw3)).mono ?_; rintro e w4 ⟨rfl, hg4⟩) | (go_at_call 16; refine (live_any _).mono ?_; rintro e w5 ⟨rfl, hg5⟩))
              all_goals go_wp2
              all_goals go_ret
              all_goals exact ⟨rfl, grown_below (grown_trans g02 (grown_trans hw3 (grown_trans hg4 hg5)))⟩
      · have hF' := beq_zero_false hF
        obtain ⟨F, hFF⟩ : ∃ F, F = crdsE zs (n + 1) := ⟨_, rfl⟩
        rw [← hFF] at hF'
        have HF := hide hFF
        clear hF hFF hE
        go_enter Try.func7, Try.ntmps7
        go_wp2_with fail
        refine c1.out.mono ?_
        rintro e w1 ⟨a, rfl, oa, hg1⟩
        have c2 := hide (coords_any _ zs (n + 1) w1 (h0.out.more hg1) (by omega) (by omega))
        rw [← HF.out] at c2
        clear oa
        go_wp2_with fail
        refine c2.out.mono ?_
        rintro e w2 ⟨b, rfl, ob, hg2⟩
        clear ob
        go_wp2_with fail
        refine (live_any _).mono ?_
        rintro e w3 ⟨rfl, hg3⟩
        go_wp2
        go_ret
        exact ⟨rfl, grown_below (grown_trans hg1 (grown_trans hg2 hg3))⟩
    · have hE' := beq_zero_false hE
      obtain ⟨E, hEE⟩ : ∃ E, E = crdsE zs n := ⟨_, rfl⟩
      rw [← hEE] at hE' c1
      clear hE hEE
      go_enter Try.func7, Try.ntmps7
      go_wp2_with fail
      refine c1.out.mono ?_
      rintro e w1 ⟨a, rfl, oa, hg1⟩
      have c2 := hide (coords_any _ zs (n + 1) w1 (h0.out.more hg1) (by omega) (by omega))
      clear oa
      go_wp2_with fail
      refine c2.out.mono ?_
      rintro e w2 ⟨b, rfl, ob, hg2⟩
      clear ob
      go_wp2_with fail
      refine (live_any _).mono ?_
      rintro e w3 ⟨rfl, hg3⟩
      go_wp2
      go_ret
      exact ⟨rfl, grown_below (grown_trans hg1 (grown_trans hg2 hg3))⟩
  · clear h
    by_cases hr1 : n < 0
    · clear hr
      go_enter Try.func7, Try.ntmps7
      go_wp2_with fail
      refine (live_any _).mono ?_
      rintro e w3 ⟨rfl, hg3⟩
      go_wp2
      go_ret
      exact ⟨rfl, grown_below hg3⟩
    · have hr2 : 65536 ≤ n := by omega
      clear hr
      go_enter Try.func7, Try.ntmps7
      go_wp2_with fail
      refine (live_any _).mono ?_
      rintro e w3 ⟨rfl, hg3⟩
      go_wp2
      go_ret
      exact ⟨rfl, grown_below hg3⟩
end Go.Proofs.Ytfamjlikpoiecaa
