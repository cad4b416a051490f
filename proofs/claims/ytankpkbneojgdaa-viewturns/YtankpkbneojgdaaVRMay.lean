/- The document's May, by the walk. -/
import Derived.Test.YtankpkbneojgdaaVBase
import Derived.Test.YtankpkbneojgdaaSSame
namespace Go.Proofs.Ytankpkbneojgdaa
open Go.RowKit

set_option maxHeartbeats 800000 in
theorem refmay_any (v : Value) (off : Int) (ds ss : List Int) (w : World) (h : IsView w v off ds ss) :
    Calls Try.prog 18 #[v] w fun e w' => e = .returned (.bool (mayB off ds ss)) ∧ w.grownBy w' none := by
  obtain ⟨dv, sv, rfl, hd, hs, ho1, ho2⟩ := h
  have hg := grown_new w (.cells #[.int .i64 off, dv, sv] 24)
  have hc := refcount_any dv ds _ (hd.more hg)
  have HS := hide (hs.more hg)
  obtain ⟨ao, cap, rfl, h1, h2, h3, -, -, -⟩ := hd
  obtain ⟨bo, bcap, rfl, hb1, hb2, hb3, -, -, -⟩ := hs
  by_cases hE : cntE ds = 0
  · rw [hE] at hc
    have HC := hide hc
    by_cases hl : ss.length = ds.length
    · have hl' : ((ss.length : Int) != (ds.length : Int)) = false := by simp [hl]
      by_cases ho : 0 ≤ off ∧ off ≤ 65535
      · have HM : Hid (mayB off ds ss = ss.all (fun s => decide (0 ≤ s ∧ s ≤ 65536))) := by simp [Hid, mayB, hE, hl, ho]
        obtain ⟨ho3, ho4⟩ := ho
        clear hE hl hc
        go_enter Try.func18, Try.ntmps18
        go_wp2_with fail
        refine HC.out.mono ?_
        rintro e w' ⟨rfl, rfl⟩
        go_wp2
        go_loopw [5] (fun i wr => wr = w.alloc (.cells #[.int .i64 off, .slice ao ds.length cap, .slice bo ss.length bcap] 24) ∧ ∃ k : Nat, k ≤ ss.length ∧ i = .int .i64 k ∧ ∀ t, t < k → 0 ≤ ss.getD t 0 ∧ ss.getD t 0 ≤ 65536) (fun i _ => ss.length - (intOf i).toNat)
        case atStart => exact ⟨rfl, 0, Nat.zero_le _, rfl, fun t h => absurd h (by omega)⟩
        case round =>
          obtain ⟨hw, k, hk, rfl, hp⟩ := hrel
          subst hw
          have HP := hide hp
          clear hp
          by_cases hkl : k < ss.length
          · obtain ⟨b, o', rfl⟩ := addr_of HS.out (by omega)
            have hcell := item_at HS.out hkl
            obtain ⟨z, hz⟩ : ∃ z, z = ss.getD k 0 := ⟨_, rfl⟩
            rw [← hz] at hcell
            have HZ := hide hz
            clear hz
            by_cases hz0 : 0 ≤ z ∧ z ≤ 65536
            · obtain ⟨hz1, hz2⟩ := hz0
              go_wp2
              go_roundw
              case rel =>
                refine ⟨by trivial, k + 1, by omega, by go_num, fun t ht => ?_⟩
                rcases lt_succ_cases ht with h | rfl
                · exact HP.out t h
                · have := HZ.out; omega
              case measure => simp [intOf]; omega
            · have HF : Hid (ss.all (fun s => decide (0 ≤ s ∧ s ≤ 65536)) = false) := by
                simp only [Hid]
                rw [Bool.eq_false_iff]
                intro h
                rw [List.all_eq_true] at h
                have := h z (by rw [HZ.out, List.getD, List.getElem?_eq_getElem hkl]; simp)
                simp only [decide_eq_true_eq] at this
                exact hz0 this
              by_cases hz1 : z < 0
              · clear hz0
                go_wp2
                go_ret
                exact ⟨by rw [HM.out, HF.out]; rfl, hg⟩
              · have hz2 : 65536 < z := by omega
                clear hz0
                go_wp2
                go_ret
                exact ⟨by rw [HM.out, HF.out]; rfl, hg⟩
          · have HT : Hid (ss.all (fun s => decide (0 ≤ s ∧ s ≤ 65536)) = true) := by
              simp only [Hid]
              rw [List.all_eq_true]
              exact fun z hz => decide_eq_true (all_of (p := fun s => 0 ≤ s ∧ s ≤ 65536) (fun t ht => HP.out t (by omega)) z hz)
            go_wp2
            go_ret
            exact ⟨by rw [HM.out, HT.out]; rfl, hg⟩
      · have HM : Hid (mayB off ds ss = false) := mayB_false fun h => ho ⟨h.lo, h.hi⟩
        by_cases ho3 : off < 0
        · clear hE hl hc ho
          go_enter Try.func18, Try.ntmps18
          go_wp2_with fail
          refine HC.out.mono ?_
          rintro e w' ⟨rfl, rfl⟩
          go_wp2
          go_ret
          exact ⟨by rw [HM.out]; rfl, hg⟩
        · have ho4 : 65535 < off := by omega
          clear hE hl hc ho
          go_enter Try.func18, Try.ntmps18
          go_wp2_with fail
          refine HC.out.mono ?_
          rintro e w' ⟨rfl, rfl⟩
          go_wp2
          go_ret
          exact ⟨by rw [HM.out]; rfl, hg⟩
    · have HM : Hid (mayB off ds ss = false) := mayB_false fun h => hl h.len
      have hl' : ((ss.length : Int) != (ds.length : Int)) = true := by simp; omega
      clear hE hl hc
      go_enter Try.func18, Try.ntmps18
      go_wp2_with fail
      refine HC.out.mono ?_
      rintro e w' ⟨rfl, rfl⟩
      go_wp2
      go_ret
      exact ⟨by rw [HM.out]; rfl, hg⟩
  · have HM : Hid (mayB off ds ss = false) := mayB_false fun h => hE h.fine.ok
    have hE' := beq_zero_false hE
    obtain ⟨E, hEE⟩ : ∃ E, E = cntE ds := ⟨_, rfl⟩
    rw [← hEE] at hE' hc
    have hE9 : (E != 0) = true := by simp [bne, hE']
    have HC := hide hc
    clear hE hEE hc
    go_enter Try.func18, Try.ntmps18
    go_wp2_with fail
    refine HC.out.mono ?_
    rintro e w' ⟨rfl, rfl⟩
    go_wp2
    go_ret
    exact ⟨by rw [HM.out]; rfl, hg⟩
end Go.Proofs.Ytankpkbneojgdaa
