/- The tensor of a Constant, by the walk. -/
import Derived.Test.YteigfipgmghgmaaGreatDoorINode
namespace Go.Proofs.YteigfipgmghgmaaGreatDoor
open Go.RowKit

/-- The attribute that holds a node's tensor, or one without. -/
def valA (A : At) : Atr := (A.xs.find? (isA ⟨#[118, 97, 108, 117, 101]⟩ 4)).getD noAtr

theorem find_none_of {xs : List Atr} {P : Atr → Bool} (h : ∀ j (hj : j < xs.length), P xs[j] = false) : xs.find? P = none := by
  rw [List.find?_eq_none]
  intro a ha
  obtain ⟨j, hj, rfl⟩ := List.mem_iff_getElem.1 ha
  simpa using h j hj

theorem find_first_of {P : Atr → Bool} : ∀ {xs : List Atr} {k : Nat} (hk : k < xs.length), (∀ j (hj : j < xs.length), j < k → P xs[j] = false) → P xs[k] = true → xs.find? P = some xs[k]
  | a :: l, 0, _, _, h => by simp only [List.getElem_cons_zero] at h ⊢; rw [List.find?_cons_of_pos h]
  | a :: l, k + 1, hk, h0, h => by
    have ha := h0 0 (by simp) (by omega)
    simp only [List.getElem_cons_zero] at ha
    rw [List.find?_cons_of_neg (by simpa using ha)]
    simp only [List.getElem_cons_succ] at h ⊢
    exact find_first_of (by simpa using hk) (fun j hj hjk => by have := h0 (j + 1) (by simpa using hj) (by omega); simpa using this) h

theorem ten_field0 (t : Int) (b c : Value) (W : World) : (Instr.field 32 (.agg #[.int .i64 t, b, c]) 0).run Tryz.prog W = .ok (.int .i64 t) W := by kernel_rfl

theorem ten_field1 (t : Int) (a : Option Addr) (n m : Nat) (c : Value) (W : World) : (Instr.field 32 (.agg #[.int .i64 t, .slice a n m, c]) 1).run Tryz.prog W = .ok (.slice a n m) W := by kernel_rfl

theorem grown_drop2 {a b c : World} {B : Nat} (h : a.grownBy b none) (k : b.grownBy c (some B)) (hb : a.heap.size ≤ B) : a.grownBy c none := grown_trans_row h k (fun r e => by cases e; exact hb)

set_option maxRecDepth 100000 in
set_option maxHeartbeats 2000000 in
theorem attrvalue_any (n : Nod) (A : At) (w : World) (hn : NodeOk w n A) : Calls Tryz.prog 102 #[nval n] w fun e w' => e = .returned (.agg #[.int .i64 (valA A).ty, .slice (valA A).dv.a (valA A).dv.n (valA A).dv.c, .slice (valA A).tv.a (valA A).tv.n (valA A).tv.c]) ∧ w.grownBy w' none := by
  have HA := hide hn.attrs
  obtain ⟨op, nam, ⟨ia, il, ic⟩, out, ⟨ao, al, cap⟩⟩ := n
  unfold nval
  simp only at HA ⊢
  obtain ⟨ao', cap', hav, h1, h2, h3⟩ := HA.out.form
  obtain ⟨rfl, rfl, rfl⟩ : ao = ao' ∧ al = A.xs.length ∧ cap = cap' := by simpa [Sl.v] using hav
  clear hav hn
  obtain ⟨w0, hw0⟩ : ∃ w0, w0 = (w.alloc (.cells #[.string op, .string nam, .slice ia il ic, .string out, .slice ao A.xs.length cap] 25)).alloc (.cells #[.int .i64 0, .slice none 0 0, .slice none 0 0] 32) := ⟨_, rfl⟩
  have g0 : w.grownBy w0 none := by rw [hw0]; exact grown_trans (grown_new _ _) (grown_new _ _)
  have hbx := two_boxes w (.cells #[.string op, .string nam, .slice ia il ic, .string out, .slice ao A.xs.length cap] 25) (.cells #[.int .i64 0, .slice none 0 0, .slice none 0 0] 32)
  rw [← hw0] at hbx
  have BX := hide hbx
  obtain ⟨xs, hxs⟩ : ∃ xs, xs = A.xs := ⟨_, rfl⟩
  have EV : Hid (valA A = (xs.find? (isA ⟨#[118, 97, 108, 117, 101]⟩ 4)).getD noAtr) := by show _ = _; rw [hxs]; rfl
  rw [← hxs] at HA h1 h3 BX hw0 ⊢
  clear hxs hbx
  go_enter Tryz.func102, Tryz.ntmps102
  go_wp2
  rw [← hw0]
  clear hw0
  go_loopw [8] (fun i wr => ∃ k : Nat, k ≤ xs.length ∧ i = .int .i64 k ∧ (∀ j (hj : j < xs.length), j < k → isA ⟨#[118, 97, 108, 117, 101]⟩ 4 xs[j] = false) ∧ w0.grownBy wr none) (fun i _ => xs.length - (intOf i).toNat)
  case atStart => exact ⟨0, Nat.zero_le _, rfl, fun j hj h => absurd h (by omega), grown_refl _⟩
  case round =>
    obtain ⟨k, hk, rfl, hall, hg⟩ := hrel
    have HL := hide hall
    have HG := hide hg
    have BW := hide (And.intro (box_kept BX.out.1 hg) (box_kept BX.out.2 hg))
    by_cases hkl : k < xs.length
    · have HV1 := HA.out.more (grown_trans g0 hg)
      obtain ⟨b, off, rfl⟩ := HV1.addr hkl
      obtain ⟨a0, a1, a2, a3, a4, a5, a6, a7, a8⟩ := HV1.attr k hkl
      obtain ⟨a, ha⟩ : ∃ a, a = xs[k] := ⟨_, rfl⟩
      rw [← ha] at a0 a1 a2 a3 a4 a5 a6 a7 a8
      have HAA := hide ha
      obtain ⟨an, ak, af, ai, as', aty, ⟨d1, d2, d3⟩, ⟨t1, t2, t3⟩, ⟨i1, i2, i3⟩⟩ := a
      simp only at a0 a1 a2 a3 a4 a5 a6 a7 a8
      clear hall hg HV1 ha
      cases hnm : (an.toList == [118, 97, 108, 117, 101]) with
      | false =>
        have HN : Hid (∀ j (hj : j < xs.length), j < k + 1 → isA ⟨#[118, 97, 108, 117, 101]⟩ 4 xs[j] = false) := fun j hj h => by
          rcases lt_succ_cases h with h | rfl
          · exact HL.out j hj h
          · rw [← HAA.out]; simp only [isA, bytes_toList] at hnm ⊢; rw [hnm]; rfl
        go_wp2
        go_roundw
        case rel => exact ⟨k + 1, by omega, by go_num, HN.out, grown_trans HG.out (grown_new _ _)⟩
        case measure => simp [intOf]; omega
      | true =>
        cases hkd : (ak == 4) with
        | false =>
          have HN : Hid (∀ j (hj : j < xs.length), j < k + 1 → isA ⟨#[118, 97, 108, 117, 101]⟩ 4 xs[j] = false) := fun j hj h => by
            rcases lt_succ_cases h with h | rfl
            · exact HL.out j hj h
            · rw [← HAA.out]; simp only [isA]; rw [hkd]; simp
          go_wp2
          go_roundw
          case rel => exact ⟨k + 1, by omega, by go_num, HN.out, grown_trans HG.out (grown_new _ _)⟩
          case measure => simp [intOf]; omega
        | true =>
          have E : Hid (valA A = xs[k]) := by
            show _ = _
            rw [EV.out, find_first_of hkl HL.out (by rw [← HAA.out]; simp only [isA, bytes_toList] at hnm ⊢; rw [hnm, hkd]; rfl)]
            rfl
          have B2 := box_kept BW.out.2 (grown_new wr (.cells #[.string an, .int .i64 ak, .int .i64 af, .int .i64 ai, .string as', .int .i64 aty, .slice d1 d2 d3, .slice t1 t2 t3, .slice i1 i2 i3] 92))
          have gw1 : w.grownBy (wr.alloc (.cells #[.string an, .int .i64 ak, .int .i64 af, .int .i64 ai, .string as', .int .i64 aty, .slice d1 d2 d3, .slice t1 t2 t3, .slice i1 i2 i3] 92)) none := grown_trans (grown_trans g0 HG.out) (grown_new _ _)
          obtain ⟨f0, f1, f2⟩ := ten_frozen B2
          obtain ⟨c0, c1, c2⟩ := ten_cells B2
          obtain ⟨hX, gX⟩ := store3t (.int .i64 aty) (.slice d1 d2 d3) (.slice t1 t2 t3) B2
          have HX := hide hX
          have GX := hide (grown_drop2 gw1 gX (by omega))
          clear hX gX gw1 B2
          go_wp2
          refine bodyPost_ret (ret_ten rfl _ _ (w.heap.size + 1) rfl HX.out) rfl ?_
          exact ⟨by rw [E.out, ← HAA.out], GX.out⟩
    · have E : Hid (valA A = noAtr) := by
        show _ = _
        rw [EV.out, find_none_of (fun j hj => HL.out j hj (by omega))]
        rfl
      obtain ⟨f0, f1, f2⟩ := ten_frozen BW.out.2
      obtain ⟨c0, c1, c2⟩ := ten_cells BW.out.2
      obtain ⟨hX, gX⟩ := store3t (.int .i64 0) (.slice none 0 0) (.slice none 0 0) BW.out.2
      have HX := hide hX
      have GX := hide (grown_drop2 (grown_trans g0 HG.out) gX (by omega))
      clear hX gX hall hg
      go_wp2
      refine bodyPost_ret (ret_ten rfl _ _ (w.heap.size + 1) rfl HX.out) rfl ?_
      exact ⟨by rw [E.out]; rfl, GX.out⟩
end Go.Proofs.YteigfipgmghgmaaGreatDoor
