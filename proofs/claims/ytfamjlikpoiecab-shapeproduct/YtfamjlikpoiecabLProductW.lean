/- ShapeProduct, by the walk. -/
import Derived.Test.YtfamjlikpoiecabSLive
namespace Go.Proofs.Ytfamjlikpoiecab
open Go.RowKit

theorem cntE_append {a b : List Int} (ha : Fine a) (hb : Fine b) : cntE (a ++ b) = if 6 < (a ++ b).length ∨ 65536 < prod a * prod b then 6 else 0 := by
  have hp : ∀ z ∈ a ++ b, 1 ≤ z := fun z hz => by
    rcases List.mem_append.1 hz with h | h
    · exact ha.pos z h
    · exact hb.pos z h
  by_cases h6 : 6 < (a ++ b).length
  · rw [if_pos (Or.inl h6), cntE_many hp h6]
  · by_cases hq : 65536 < prod a * prod b
    · rw [if_pos (Or.inr hq), cntE_great hp (by rw [prod_append]; exact hq)]
    · rw [if_neg (by omega), cntE_ok hp (by omega) (by rw [prod_append]; omega)]

set_option maxHeartbeats 1600000 in
theorem product_walk (va : Value) (a : List Int) (vb : Value) (b : List Int) (w : World) (ha : IsInts w va a) (hb : IsInts w vb b) :
    Calls Try.prog 3 #[va, vb] w fun e w' => e = .returned (.bool true) ∧ Below w.heap.size w w' := by
  have A := hide ha
  have B := hide hb
  have c1 := hide (count_any va a w ha)
  have c2 := hide (count_any vb b w hb)
  clear ha hb
  by_cases hE : cntE a = 0
  · rw [hE] at c1
    by_cases hF : cntE b = 0
    · rw [hF] at c2
      have FA := hide (fine_of hE)
      have FB := hide (fine_of hF)
      rw [FA.out.cnt] at c1
      rw [FB.out.cnt] at c2
      have p1 := FA.out.prod_pos
      have p2 := FA.out.le
      have q1 := FB.out.prod_pos
      have q2 := FB.out.le
      have l1 := FA.out.few
      have l2 := FB.out.few
      have hsum := hide (cntE_append FA.out FB.out)
      have hpa := hide (prod_append a b)
      have hla : (a ++ b).length = a.length + b.length := List.length_append
      have hmul1 : 0 ≤ prod a * prod b := Int.mul_nonneg (by omega) (by omega)
      have hmul2 : prod a * prod b ≤ 65536 * 65536 := Int.mul_le_mul (by omega) (by omega) (by omega) (by omega)
      obtain ⟨N, hN⟩ : ∃ N, N = prod a := ⟨_, rfl⟩
      obtain ⟨M, hM⟩ : ∃ M, M = prod b := ⟨_, rfl⟩
      rw [← hN] at c1 p1 p2
      rw [← hM] at c2 q1 q2
      rw [← hN, ← hM] at hmul1 hmul2 hsum hpa
      have HLA := hide hla
      clear hE hF hN hM hla
      go_enter Try.func3, Try.ntmps3
      go_wp2_with fail
      refine c1.out.mono ?_
      rintro e w' ⟨rfl, rfl⟩
      go_wp2_with fail
      refine c2.out.mono ?_
      rintro e w' ⟨rfl, rfl⟩
      go_wp2_with (first | (at_builtin; refine wpList_app rfl (.tmp 29) (.tmp 30) rfl w.heap.size _ [] rfl (owns_nil _ _) va a rfl A.out ?_ (Nat.le_refl _) ?_; (simp; omega); intro v1 w1 hown1 hg1; simp only [List.nil_append] at hown1; have O1 := hide hown1; have hs1 := hg1.size; have B1 := hide (B.out.more hg1); clear hown1) | (at_builtin; refine wpList_app rfl (.tmp 32) (.tmp 33) rfl w.heap.size _ a rfl O1.out vb b rfl B1.out ?_ ?_ ?_; omega; omega; intro v2 w2 hown2 hg2))
      have O2 := hide hown2
      have G2 : Hid (w.grownBy w2 none) := grown_trans_row hg1 hg2 (fun g hg => (O1.out.lt g hg).1)
      have c3 := hide (count_any v2 (a ++ b) w2 hown2.ints)
      obtain ⟨_, cap, rfl, -, -, -, -, -, -⟩ := hown2.ints
      rw [hsum.out] at c3
      rw [HLA.out] at c3 ⊢
      clear hown2 hg2
      by_cases hbig : 6 < a.length + b.length ∨ 65536 < N * M
      · rw [if_pos hbig] at c3
        by_cases h6 : 6 < a.length + b.length
        · clear hbig
          go_wp2_with fail
          refine c3.out.mono ?_
          rintro e w' ⟨rfl, rfl⟩
          go_wp2_with fail
          refine (live_any _).mono ?_
          rintro e w5 ⟨rfl, hg5⟩
          go_wp2
          go_ret
          exact ⟨rfl, grown_below (grown_trans G2.out hg5)⟩
        · have hb2 : 65536 < N * M := by omega
          clear hbig
          go_wp2_with fail
          refine c3.out.mono ?_
          rintro e w' ⟨rfl, rfl⟩
          go_wp2_with fail
          refine (live_any _).mono ?_
          rintro e w5 ⟨rfl, hg5⟩
          go_wp2
          go_ret
          exact ⟨rfl, grown_below (grown_trans G2.out hg5)⟩
      · have hcn : Hid (cnt (a ++ b) = N * M) := by
          show _ = _
          rw [cnt, if_pos (by rw [hsum.out, HLA.out, if_neg hbig]), hpa.out]
        rw [if_neg hbig, hcn.out] at c3
        have hb1 : a.length + b.length ≤ 6 := by omega
        have hb2 : N * M ≤ 65536 := by omega
        clear hbig
        go_wp2_with fail
        refine c3.out.mono ?_
        rintro e w' ⟨rfl, rfl⟩
        go_wp2_with fail
        refine (live_any _).mono ?_
        rintro e w5 ⟨rfl, hg5⟩
        go_wp2
        go_ret
        exact ⟨rfl, grown_below (grown_trans G2.out hg5)⟩
    · have hF' := beq_zero_false hF
      obtain ⟨F, hFF⟩ : ∃ F, F = cntE b := ⟨_, rfl⟩
      rw [← hFF] at hF' c2
      clear hE hF hFF
      go_enter Try.func3, Try.ntmps3
      go_wp2_with fail
      refine c1.out.mono ?_
      rintro e w' ⟨rfl, rfl⟩
      go_wp2_with fail
      refine c2.out.mono ?_
      rintro e w' ⟨rfl, rfl⟩
      go_wp2_with fail
      refine (live_any _).mono ?_
      rintro e w5 ⟨rfl, hg5⟩
      go_wp2
      go_ret
      exact ⟨rfl, grown_below hg5⟩
  · have hE' := beq_zero_false hE
    obtain ⟨E, hEE⟩ : ∃ E, E = cntE a := ⟨_, rfl⟩
    rw [← hEE] at hE' c1
    clear hE hEE
    go_enter Try.func3, Try.ntmps3
    go_wp2_with fail
    refine c1.out.mono ?_
    rintro e w' ⟨rfl, rfl⟩
    go_wp2_with fail
    refine c2.out.mono ?_
    rintro e w' ⟨rfl, rfl⟩
    go_wp2_with fail
    refine (live_any _).mono ?_
    rintro e w5 ⟨rfl, hg5⟩
    go_wp2
    go_ret
    exact ⟨rfl, grown_below hg5⟩
end Go.Proofs.Ytfamjlikpoiecab
