/- Coords, by the walk: of the code, and the document's. -/
import Derived.Test.YteigfipgmghgmaaGreatDoorSRStr
namespace Go.Proofs.YteigfipgmghgmaaGreatDoor
open Go.RowKit

def crdsE (zs : List Int) (n : Int) : Int := if cntE zs ≠ 0 then cntE zs else if n < 0 ∨ prod zs ≤ n then 1 else 0
def crdsL (zs : List Int) (n : Int) : List Int := if crdsE zs n = 0 then crds zs n else []

theorem crds_back {zs : List Int} {k : Nat} (hk : k < zs.length) (n : Int) :
    crds (zs.drop (zs.length - (k + 1))) n = n / prod (zs.drop (zs.length - k)) % zs.getD (zs.length - 1 - k) 0 :: crds (zs.drop (zs.length - k)) n := by
  rw [drop_step zs (zs.length - (k + 1)) (by omega), show zs.length - (k + 1) + 1 = zs.length - k by omega, show zs.length - (k + 1) = zs.length - 1 - k by omega]
  rfl

theorem quo_back {zs : List Int} {k : Nat} (hF : Fine zs) (hk : k < zs.length) (n : Int) :
    n / prod (zs.drop (zs.length - k)) / zs.getD (zs.length - 1 - k) 0 = n / prod (zs.drop (zs.length - (k + 1))) := by
  rw [back_mul hk, Int.ediv_ediv_of_nonneg (by have := (hF.drop (zs.length - k)).prod_pos; omega)]

theorem inside_mem : ∀ {zs cs : List Int}, inside zs cs = true → ∀ c ∈ cs, 0 ≤ c ∧ ∃ z ∈ zs, c < z
  | [], [], _, c, hc => by simp at hc
  | z :: zs, x :: cs, h, c, hc => by
    simp only [inside, Bool.and_eq_true, decide_eq_true_eq] at h
    rcases List.mem_cons.1 hc with rfl | hc
    · exact ⟨h.1.1, z, by simp, h.1.2⟩
    · obtain ⟨h1, y, hy, h2⟩ := inside_mem h.2 c hc
      exact ⟨h1, y, by simp [hy], h2⟩
  | [], _ :: _, h, _, _ => by simp [inside] at h
  | _ :: _, [], h, _, _ => by simp [inside] at h

theorem le_prod : ∀ {zs : List Int}, (∀ z ∈ zs, 1 ≤ z) → ∀ z ∈ zs, z ≤ prod zs
  | y :: zs, h, z, hz => by
    have h1 := h y (by simp)
    have h2 := prod_pos zs (fun x hx => h x (by simp [hx]))
    rcases List.mem_cons.1 hz with rfl | hz
    · have := le_mul_right h2 (show 0 ≤ z by omega)
      simpa [prod] using this
    · have h3 := le_prod (fun x hx => h x (by simp [hx])) z hz
      have h4 := le_mul_left h1 (show 0 ≤ prod zs by omega)
      simp only [prod]
      omega

theorem crds_wf {zs : List Int} (hF : Fine zs) (n : Int) : ∀ z ∈ crds zs n, 0 ≤ z ∧ z ≤ 65536 := by
  intro z hz
  obtain ⟨h1, y, hy, h2⟩ := inside_mem (crds_inside zs n hF.pos) z hz
  have h3 := le_prod hF.pos y hy
  have h4 := hF.le
  omega

set_option maxHeartbeats 800000 in
set_option maxRecDepth 100000 in
theorem refcoords_any (v : Value) (zs : List Int) (n : Int) (w : World) (h : IsInts w v zs) (hn0 : -9223372036854775808 ≤ n) (hn1 : n ≤ 9223372036854775807) :
    Calls Tryz.prog 11 #[v, .int .i64 n] w fun e w' => ∃ u, e = .returned (.tuple #[u, .int .i64 (crdsE zs n)]) ∧ Owns w' w.heap.size u (crdsL zs n) ∧ w.grownBy w' none := by
  obtain ⟨i0, hi, hz0, hz1, hz2⟩ := info_parts infoInt
  have hcount := hide (refcount_any v zs w h)
  have h0 := hide h
  obtain ⟨ao, cap, rfl, h1, h2, h3, -, -, -⟩ := h
  by_cases hE : cntE zs = 0
  · have HF := hide (fine_of hE)
    have hcn := HF.out.cnt
    have hle := HF.out.le
    have hpp := HF.out.prod_pos
    rw [hE, hcn] at hcount
    obtain ⟨P, hP⟩ : ∃ P, P = prod zs := ⟨_, rfl⟩
    rw [← hP] at hcount hle hpp
    by_cases hr : n < 0 ∨ P ≤ n
    · have e1 : crdsE zs n = 1 := by simp [crdsE, hE, ← hP, hr]
      rw [show crdsL zs n = [] by simp [crdsL, e1], e1]
      clear hE hcn hP e1
      by_cases hr0 : n < 0
      · clear hr
        go_enter Tryz.func11, Tryz.ntmps11
        go_wp2_with (go_at_call 17; refine hcount.out.mono ?_; rintro e w' ⟨rfl, rfl⟩)
        go_ret2
        exact ⟨_, rfl, owns_nil _ _, grown_refl _⟩
      · have hr1 : P ≤ n := by omega
        clear hr
        go_enter Tryz.func11, Tryz.ntmps11
        go_wp2_with (go_at_call 17; refine hcount.out.mono ?_; rintro e w' ⟨rfl, rfl⟩)
        go_ret2
        exact ⟨_, rfl, owns_nil _ _, grown_refl _⟩
    · have e1 : crdsE zs n = 0 := by simp only [crdsE, hE, ← hP, if_neg hr]; rfl
      rw [show crdsL zs n = crds zs n by simp [crdsL, e1], e1]
      have HP := hide hP
      have hr0 : 0 ≤ n := by omega
      have hr1 : n < P := by omega
      clear hE hcn hP e1 hr
      have hb2 : i0.bytes * zs.length ≤ 281474976710656 := by rw [hz2]; omega
      have hb3 : zs.length ≤ maxLen := by simp only [maxLen]; omega
      go_enter Tryz.func11, Tryz.ntmps11
      go_wp2_with (first | (go_at_call 17; refine hcount.out.mono ?_; rintro e w' ⟨rfl, rfl⟩) | (refine wpList_make_full _ rfl (.tmp 26) (.tmp 26) 29 rfl w.heap.size 3 i0 (.int .i64 0) 1 Tryz.underlying29 hi hz0 hz1 .i64 .i64 _ _ zs.length rfl rfl rfl rfl hb2 hb3 (Nat.le_refl _) ?_; intro w1 hown hgrow))
      rw [made_zeros] at hown
      go_loopw [1, 9] (fun m i wr => w.grownBy wr none ∧ ∃ k : Nat, k ≤ zs.length ∧ i = .int .i64 ((zs.length : Int) - 1 - k) ∧ m = .int .i64 (n / prod (zs.drop (zs.length - k))) ∧
        wr.ownsRow w.heap.size 3 1 (.slice (some ⟨w.heap.size, 0, none⟩) zs.length zs.length) zs.length ((backFill zs.length k (crds (zs.drop (zs.length - k)) n)).map (Value.int .i64))) (fun _ i _ => (intOf i + 1).toNat)
      case atStart => exact ⟨hgrow, 0, Nat.zero_le _, by simp, by simp [prod], by simpa [backFill, crds] using hown⟩
      case round =>
        clear hown hgrow
        obtain ⟨hw, k, hk, rfl, hm, hown⟩ := hrel
        have hq0 : 0 ≤ n / prod (zs.drop (zs.length - k)) := Int.ediv_nonneg hr0 (by have := (HF.out.drop (zs.length - k)).prod_pos; omega)
        have hq1 : n / prod (zs.drop (zs.length - k)) ≤ n := Int.ediv_le_self _ hr0
        have hcr : k < zs.length → crds (zs.drop (zs.length - (k + 1))) n = n / prod (zs.drop (zs.length - k)) % zs.getD (zs.length - 1 - k) 0 :: crds (zs.drop (zs.length - k)) n := fun hk => crds_back hk n
        have hqu : k < zs.length → n / prod (zs.drop (zs.length - k)) / zs.getD (zs.length - 1 - k) 0 = n / prod (zs.drop (zs.length - (k + 1))) := fun hk => quo_back HF.out hk n
        obtain ⟨q, hqd⟩ : ∃ q, q = n / prod (zs.drop (zs.length - k)) := ⟨_, rfl⟩
        rw [← hqd] at hm hq0 hq1 hcr hqu
        subst hm
        clear hqd
        by_cases hkl : k < zs.length
        · obtain ⟨b, off, rfl⟩ := addr_of h0.out (by omega)
          have hb := block_lt h0.out (by omega)
          have hcell := item_at (h0.out.more hw) (k := zs.length - 1 - k) (by omega)
          have hd1 := HF.out.at (zs.length - 1 - k) (by omega)
          have hcr := hcr hkl
          have hqu := hqu hkl
          obtain ⟨d, hd⟩ : ∃ d, d = zs.getD (zs.length - 1 - k) 0 := ⟨_, rfl⟩
          rw [← hd] at hcell hd1 hcr hqu
          obtain ⟨⟨c, hc⟩, hf, hown2, hw2⟩ := fill_step (z := q % d) hkl hw hown
          have hm0 := Int.emod_nonneg q (show d ≠ 0 by omega)
          have hm1 := Int.emod_lt_of_pos q (show 0 < d by omega)
          have HC := hide hcr
          have HQ := hide hqu
          have HO := hide hown2
          have HW := hide hw2
          clear hd hcr hqu hown hown2 hw2 hw
          go_wp2
          go_roundw
          case rel =>
            refine ⟨HW.out, k + 1, by omega, by go_num, by rw [← HQ.out], ?_⟩
            rw [HC.out]
            exact HO.out
          case measure => simp [intOf]; omega
        · have HO := hide hown
          clear hown hcr hqu
          go_wp2
          go_ret2
          refine ⟨_, rfl, ⟨?_, ?_, ?_⟩, hw⟩
          · have := HO.out
            rw [show zs.length - k = 0 by omega, show backFill zs.length k (crds (zs.drop 0) n) = crds zs n by simp [backFill, show zs.length - k = 0 by omega]] at this
            rw [crds_length]
            exact this
          · rw [crds_length]; omega
          · intro s hs
            have := crds_wf HF.out n s hs
            omega
  · have e1 : crdsE zs n = cntE zs := by simp [crdsE, hE]
    rw [show crdsL zs n = [] by simp [crdsL, e1, hE], e1]
    obtain ⟨E, hEE⟩ : ∃ E, E = cntE zs := ⟨_, rfl⟩
    rw [← hEE] at hcount hE ⊢
    have hE' : (E == 0) = false := by simpa using hE
    clear hEE hE e1
    go_enter Tryz.func11, Tryz.ntmps11
    go_wp2_with (go_at_call 17; refine hcount.out.mono ?_; rintro e w' ⟨rfl, rfl⟩)
    go_ret2
    exact ⟨_, rfl, owns_nil _ _, grown_refl _⟩

end Go.Proofs.YteigfipgmghgmaaGreatDoor
