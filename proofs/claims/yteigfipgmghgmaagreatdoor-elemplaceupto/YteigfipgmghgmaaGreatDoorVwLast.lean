/- The last place of a view, and the places as a sequence, by the walk. -/
import Derived.Test.YteigfipgmghgmaaGreatDoorVwAlong
namespace Go.Proofs.YteigfipgmghgmaaGreatDoor.Vw
open Go.RowKit Go.Shelf

attribute [local go_sem] Oper.semAt_some

theorem lst_at {ds ss : List Int} {off : Int} (h : MayV off ds ss) {k : Nat} (hk : k < ds.length) : 1 ≤ ds.getD k 0 ∧ ds.getD k 0 ≤ 65536 ∧ 0 ≤ ss.getD k 0 ∧ ss.getD k 0 ≤ 65536 := by
  have h1 := h.fine.at k hk
  have h2 := le_prod h.fine.pos (ds.getD k 0) (by rw [List.getD, List.getElem?_eq_getElem hk]; simp)
  have h3 := h.fine.le
  have h4 := h.str (ss.getD k 0) (by have := h.len; rw [List.getD, List.getElem?_eq_getElem (by omega)]; simp)
  omega

set_option maxHeartbeats 800000 in
theorem last_any (v : Value) (off : Int) (ds ss : List Int) (w : World) (h : IsView w v off ds ss) (hm : MayV off ds ss) :
    Calls Tryz.prog 65 #[v] w fun e w' => e = .returned (.int .i64 (off + lst ds ss)) ∧ w.grownBy w' none := by
  obtain ⟨dv, sv, rfl, hd, hs, ho1, ho2⟩ := h
  have hg := grown_new w (.cells #[.int .i64 off, dv, sv] 76)
  have HM := hide hm
  have HD := hide (hd.more hg)
  have HS := hide (hs.more hg)
  have hf := hm.fine.few
  have hl := hide hm.len
  have hll : ds.length ≤ ss.length := by have := hm.len; omega
  have hlo := hm.lo
  have hhi := hm.hi
  obtain ⟨ao, cap, rfl, h1, h2, h3, -, -, -⟩ := hd
  obtain ⟨bo, bcap, rfl, hb1, hb2, hb3, -, -, -⟩ := hs
  clear hm
  go_enter Tryz.func65, Tryz.ntmps65
  go_wp2
  go_loopw [3, 11] (fun m i wr => wr = w.alloc (.cells #[.int .i64 off, .slice ao ds.length cap, .slice bo ss.length bcap] 76) ∧ ∃ (k : Nat) (q : Int), k ≤ ds.length ∧ i = .int .i64 k ∧ m = .int .i64 q ∧ 0 ≤ q ∧ q ≤ 65535 + 4294967296 * k ∧ q + lst (ds.drop k) (ss.drop k) = off + lst ds ss) (fun _ i _ => ds.length - (intOf i).toNat)
  case atStart => exact ⟨rfl, 0, off, Nat.zero_le _, rfl, rfl, hlo, by omega, by simp⟩
  case round =>
    obtain ⟨hw, k, q, hk, rfl, rfl, hq0, hq1, hsum⟩ := hrel
    subst hw
    have HSUM := hide hsum
    clear hsum
    by_cases hkl : k < ds.length
    · obtain ⟨b, o, rfl⟩ := addr_of HD.out (by omega)
      obtain ⟨b', o', rfl⟩ := addr_of HS.out (by omega)
      have hcd := item_at HD.out hkl
      have hcs := item_at HS.out (k := k) (by omega)
      have hat := lst_at HM.out hkl
      have hls := lst_drop hl.out hkl
      obtain ⟨d, hdd⟩ : ∃ d, d = ds.getD k 0 := ⟨_, rfl⟩
      obtain ⟨s, hss⟩ : ∃ s, s = ss.getD k 0 := ⟨_, rfl⟩
      rw [← hdd] at hcd hat hls
      rw [← hss] at hcs hat hls
      obtain ⟨a1, a2, a3, a4⟩ := hat
      have hm0 : 0 ≤ (d - 1) * s := Int.mul_nonneg (by omega) a3
      have hm1 : (d - 1) * s ≤ 65536 * 65536 := Int.mul_le_mul (by omega) (by omega) (by omega) (by omega)
      have HLS := hide hls
      have FU : Hid (∀ wx, Calls Tryz.prog 95 #[.int .i64 q, .int .i64 (d - 1), .int .i64 s] wx fun e w' => e = .returned (.int .i64 (q + (d - 1) * s)) ∧ wx = w') :=
        fun wx => further_any q (d - 1) s wx (by omega) (by omega) (by omega) (by omega)
      clear hdd hss hls
      go_wp2_with (go_at_call 95; refine (FU.out _).mono ?_; rintro e w' ⟨rfl, rfl⟩)
      go_roundw
      case rel =>
        refine ⟨by trivial, k + 1, q + (d - 1) * s, by omega, by go_num, rfl, by omega, by omega, ?_⟩
        have h1 := HLS.out; have h2 := HSUM.out; omega
      case measure => simp [intOf]; omega
    · have HQ : Hid (q = off + lst ds ss) := by
        show q = _
        have := HSUM.out
        rw [List.drop_of_length_le (show ds.length ≤ k by omega)] at this
        simpa [lst] using this
      go_wp2
      go_ret
      exact ⟨by rw [← HQ.out]; rfl, hg⟩

end Go.Proofs.YteigfipgmghgmaaGreatDoor.Vw
