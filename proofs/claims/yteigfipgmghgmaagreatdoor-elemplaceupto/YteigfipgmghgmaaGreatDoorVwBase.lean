/- Views: what one reads as; whether it may be, by the walk. -/
import Derived.Test.YteigfipgmghgmaaGreatDoorSCrd
namespace Go.Proofs.YteigfipgmghgmaaGreatDoor.Vw
open Go.RowKit

/-- The value v is a view, in the world w. -/
def IsView (w : World) (v : Value) (off : Int) (ds ss : List Int) : Prop :=
  ∃ dv sv, v = .agg #[.int .i64 off, dv, sv] ∧ IsInts w dv ds ∧ IsInts w sv ss ∧ -9223372036854775808 ≤ off ∧ off ≤ 9223372036854775807

theorem IsView.more {w w' : World} {v : Value} {off : Int} {ds ss : List Int} (h : IsView w v off ds ss) (hg : w.grownBy w' none) : IsView w' v off ds ss := by
  obtain ⟨dv, sv, rfl, hd, hs, ho⟩ := h
  exact ⟨dv, sv, rfl, hd.more hg, hs.more hg, ho⟩

def mayB (off : Int) (ds ss : List Int) : Bool := decide (cntE ds = 0) && (decide (ss.length = ds.length) && (decide (0 ≤ off ∧ off ≤ 65535) && ss.all (fun s => decide (0 ≤ s ∧ s ≤ 65536))))

/-- A view that may be. -/
structure MayV (off : Int) (ds ss : List Int) : Prop where
  fine : Fine ds
  len : ss.length = ds.length
  lo : 0 ≤ off
  hi : off ≤ 65535
  str : ∀ s ∈ ss, 0 ≤ s ∧ s ≤ 65536

theorem mayB_iff {off : Int} {ds ss : List Int} : mayB off ds ss = true ↔ MayV off ds ss := by
  unfold mayB
  simp only [Bool.and_eq_true, decide_eq_true_eq, List.all_eq_true]
  exact ⟨fun ⟨h1, h2, h3, h4⟩ => ⟨fine_of h1, h2, h3.1, h3.2, h4⟩, fun h => ⟨h.fine.ok, h.len, ⟨h.lo, h.hi⟩, h.str⟩⟩

theorem mayB_false {off : Int} {ds ss : List Int} (h : ¬ MayV off ds ss) : mayB off ds ss = false := by
  rw [Bool.eq_false_iff]
  exact fun h' => h (mayB_iff.1 h')

theorem further_any (p s t : Int) (w : World) (h1 : -4611686018427387904 ≤ p ∧ p ≤ 4611686018427387904) (h2 : -4611686018427387904 ≤ s * t ∧ s * t ≤ 4611686018427387903) (_hs : -9223372036854775808 ≤ s ∧ s ≤ 9223372036854775807) (_ht : -9223372036854775808 ≤ t ∧ t ≤ 9223372036854775807) :
    Calls Tryz.prog 95 #[.int .i64 p, .int .i64 s, .int .i64 t] w fun e w' => e = .returned (.int .i64 (p + s * t)) ∧ w = w' := by
  obtain ⟨h11, h12⟩ := h1
  obtain ⟨h21, h22⟩ := h2
  go_enter Tryz.func95, Tryz.ntmps95
  go_wp2
  go_ret
  exact ⟨rfl, rfl⟩

set_option maxHeartbeats 800000 in
theorem mayBe_any (v : Value) (off : Int) (ds ss : List Int) (w : World) (h : IsView w v off ds ss) :
    Calls Tryz.prog 39 #[v] w fun e w' => e = .returned (.bool (mayB off ds ss)) ∧ w.grownBy w' none := by
  obtain ⟨dv, sv, rfl, hd, hs, ho1, ho2⟩ := h
  have hg := grown_new w (.cells #[.int .i64 off, dv, sv] 76)
  have hc := count_any dv ds _ (hd.more hg)
  have HS := hide (hs.more hg)
  obtain ⟨ao, cap, rfl, h1, h2, h3, -, -, -⟩ := hd
  obtain ⟨bo, bcap, rfl, hb1, hb2, hb3, -, -, -⟩ := hs
  by_cases hE : cntE ds = 0
  · rw [hE] at hc
    have HC := hide hc
    by_cases hl : ss.length = ds.length
    · have hl' : ((ss.length : Int) != (ds.length : Int)) = false := by simp [hl]
      by_cases ho : 0 ≤ off ∧ off ≤ 65535
      · have HM : Hid (mayB off ds ss = ss.all (fun s => decide (0 ≤ s ∧ s ≤ 65536))) := by simp [Hid, mayB, hE, hl, ho]
        obtain ⟨ho3, ho4⟩ := ho
        clear hE hl hc
        go_enter Tryz.func39, Tryz.ntmps39
        go_wp2_with fail
        refine HC.out.mono ?_
        rintro e w' ⟨rfl, rfl⟩
        go_wp2
        go_loopw [35] (fun i wr => wr = w.alloc (.cells #[.int .i64 off, .slice ao ds.length cap, .slice bo ss.length bcap] 76) ∧ ∃ k : Nat, k ≤ ss.length ∧ i = .int .i64 k ∧ ∀ t, t < k → 0 ≤ ss.getD t 0 ∧ ss.getD t 0 ≤ 65536) (fun i _ => ss.length - (intOf i).toNat)
        case atStart => exact ⟨rfl, 0, Nat.zero_le _, rfl, fun t h => absurd h (by omega)⟩
        case round =>
          obtain ⟨hw, k, hk, rfl, hp⟩ := hrel
          subst hw
          have HP := hide hp
          clear hp
          by_cases hkl : k < ss.length
          · obtain ⟨b, o', rfl⟩ := addr_of HS.out (by omega)
            have hcell := item_at HS.out hkl
            obtain ⟨z, hz⟩ : ∃ z, z = ss.getD k 0 := ⟨_, rfl⟩
            rw [← hz] at hcell
            have HZ := hide hz
            clear hz
            by_cases hz0 : 0 ≤ z ∧ z ≤ 65536
            · obtain ⟨hz1, hz2⟩ := hz0
              go_wp2
              go_roundw
              case rel =>
                refine ⟨by trivial, k + 1, by omega, by go_num, fun t ht => ?_⟩
                rcases lt_succ_cases ht with h | rfl
                · exact HP.out t h
                · have := HZ.out; omega
              case measure => simp [intOf]; omega
            · have HF : Hid (ss.all (fun s => decide (0 ≤ s ∧ s ≤ 65536)) = false) := by
                simp only [Hid]
                rw [Bool.eq_false_iff]
                intro h
                rw [List.all_eq_true] at h
                have := h z (by rw [HZ.out, List.getD, List.getElem?_eq_getElem hkl]; simp)
                simp only [decide_eq_true_eq] at this
                exact hz0 this
              by_cases hz1 : z < 0
              · clear hz0
                go_wp2
                go_ret
                exact ⟨by rw [HM.out, HF.out]; rfl, hg⟩
              · have hz2 : 65536 < z := by omega
                clear hz0
                go_wp2
                go_ret
                exact ⟨by rw [HM.out, HF.out]; rfl, hg⟩
          · have HT : Hid (ss.all (fun s => decide (0 ≤ s ∧ s ≤ 65536)) = true) := by
              simp only [Hid]
              rw [List.all_eq_true]
              exact fun z hz => decide_eq_true (all_of (p := fun s => 0 ≤ s ∧ s ≤ 65536) (fun t ht => HP.out t (by omega)) z hz)
            go_wp2
            go_ret
            exact ⟨by rw [HM.out, HT.out]; rfl, hg⟩
      · have HM : Hid (mayB off ds ss = false) := mayB_false fun h => ho ⟨h.lo, h.hi⟩
        by_cases ho3 : off < 0
        · clear hE hl hc ho
          go_enter Tryz.func39, Tryz.ntmps39
          go_wp2_with fail
          refine HC.out.mono ?_
          rintro e w' ⟨rfl, rfl⟩
          go_wp2
          go_ret
          exact ⟨by rw [HM.out]; rfl, hg⟩
        · have ho4 : 65535 < off := by omega
          clear hE hl hc ho
          go_enter Tryz.func39, Tryz.ntmps39
          go_wp2_with fail
          refine HC.out.mono ?_
          rintro e w' ⟨rfl, rfl⟩
          go_wp2
          go_ret
          exact ⟨by rw [HM.out]; rfl, hg⟩
    · have HM : Hid (mayB off ds ss = false) := mayB_false fun h => hl h.len
      have hl' : ((ss.length : Int) != (ds.length : Int)) = true := by simp; omega
      clear hE hl hc
      go_enter Tryz.func39, Tryz.ntmps39
      go_wp2_with fail
      refine HC.out.mono ?_
      rintro e w' ⟨rfl, rfl⟩
      go_wp2
      go_ret
      exact ⟨by rw [HM.out]; rfl, hg⟩
  · have HM : Hid (mayB off ds ss = false) := mayB_false fun h => hE h.fine.ok
    have hE' := beq_zero_false hE
    obtain ⟨E, hEE⟩ : ∃ E, E = cntE ds := ⟨_, rfl⟩
    rw [← hEE] at hE' hc
    have HC := hide hc
    clear hE hEE hc
    go_enter Tryz.func39, Tryz.ntmps39
    go_wp2_with fail
    refine HC.out.mono ?_
    rintro e w' ⟨rfl, rfl⟩
    go_wp2
    go_ret
    exact ⟨by rw [HM.out]; rfl, hg⟩
end Go.Proofs.YteigfipgmghgmaaGreatDoor.Vw
