/- The document's find, Ints, Int and Bits, by the walk. -/
import Derived.Test.YtlmaobkfmplalaaDoorNReads
namespace Go.Proofs.YtlmaobkfmplalaaDoor
open Go.RowKit

theorem find_at {P : Atr → Bool} {xs : List Atr} {k : Nat} (hk : k < xs.length) (h : P xs[k] = true) : (xs.drop k).find? P = some xs[k] := by
  rw [List.drop_eq_getElem_cons hk, List.find?_cons, h]

theorem find_past {P : Atr → Bool} {xs : List Atr} {k : Nat} (hk : k < xs.length) (h : P xs[k] = false) : (xs.drop k).find? P = (xs.drop (k + 1)).find? P := by
  rw [List.drop_eq_getElem_cons hk, List.find?_cons, h]

set_option maxRecDepth 100000 in
set_option maxHeartbeats 6400000 in
theorem rfind_any (n : Nod) (xs : List Atr) (nm : ByteArray) (kd : Int) (w : World) (hv : IsAttrs w n.av.v xs) :
    Calls Tryd.prog 29 #[nval n, .string nm, .int .i64 kd] w fun e w' => e = .returned (.tuple #[aval ((xs.find? (isA nm kd)).getD noAtr), .bool (xs.find? (isA nm kd)).isSome]) ∧ w.grownBy w' none := by
  obtain ⟨op, nam, ⟨ia, il, ic⟩, out, ⟨ao, al, cap⟩⟩ := n
  simp only at hv
  obtain ⟨ao', cap', hav, h1, h2, h3⟩ := hv.form
  obtain ⟨rfl, rfl, rfl⟩ : ao = ao' ∧ al = xs.length ∧ cap = cap' := by simpa [Sl.v] using hav
  have HV := hide hv
  clear hv hav
  unfold nval
  obtain ⟨w0, hw0⟩ : ∃ w0, w0 = (w.alloc (.cells #[.string op, .string nam, .slice ia il ic, .string out, .slice ao xs.length cap] 25)).alloc (.cells #[.string ⟨#[]⟩, .int .i64 0, .int .i64 0, .int .i64 0, .string ⟨#[]⟩, .int .i64 0, .slice none 0 0, .slice none 0 0, .slice none 0 0] 45) := ⟨_, rfl⟩
  have g0 : w.grownBy w0 none := by rw [hw0]; exact grown_trans (grown_new _ _) (grown_new _ _)
  have hbx := two_boxes w (.cells #[.string op, .string nam, .slice ia il ic, .string out, .slice ao xs.length cap] 25) (.cells #[.string ⟨#[]⟩, .int .i64 0, .int .i64 0, .int .i64 0, .string ⟨#[]⟩, .int .i64 0, .slice none 0 0, .slice none 0 0, .slice none 0 0] 45)
  rw [← hw0] at hbx
  have BX := hide hbx
  clear hbx
  obtain ⟨-, -, -, -, n4⟩ := nod_cells (n := ⟨op, nam, ⟨ia, il, ic⟩, out, ⟨ao, xs.length, cap⟩⟩) BX.out.1
  obtain ⟨f0, f1, f2, f3, f4, f5, f6, f7, f8⟩ := atr_frozen BX.out.2
  obtain ⟨k0, k1, k2, k3, k4, k5, k6, k7, k8⟩ := atr_cells (a := noAtr) BX.out.2
  go_enter Tryd.func29, Tryd.ntmps29
  go_wp2_with fail
  rw [← hw0]
  clear hw0
  go_loopw [8] (fun i wr => wr = w0 ∧ ∃ k : Nat, k ≤ xs.length ∧ i = .int .i64 k ∧ xs.find? (isA nm kd) = (xs.drop k).find? (isA nm kd)) (fun i _ => xs.length - (intOf i).toNat)
  case atStart => exact ⟨rfl, 0, Nat.zero_le _, rfl, rfl⟩
  case round =>
    obtain ⟨rfl, k, hk, rfl, hpl⟩ := hrel
    have HPL := hide hpl
    clear hpl
    by_cases hlt : k < xs.length
    · have HV1 := HV.out.more g0
      obtain ⟨b, off, rfl⟩ := HV1.addr hlt
      obtain ⟨a0, a1, a2, a3, a4, a5, a6, a7, a8⟩ := HV1.attr k hlt
      have HF : Hid (isA nm kd xs[k] = true → xs.find? (isA nm kd) = some xs[k]) := fun h => HPL.out.trans (find_at hlt h)
      have HP : Hid (isA nm kd xs[k] = false → xs.find? (isA nm kd) = (xs.drop (k + 1)).find? (isA nm kd)) := fun h => HPL.out.trans (find_past hlt h)
      obtain ⟨A, hA⟩ : ∃ A, A = xs[k] := ⟨_, rfl⟩
      rw [← hA] at a0 a1 a2 a3 a4 a5 a6 a7 a8 HF HP
      clear HV1 hA
      by_cases hn : (A.name.toList == nm.toList) = true
      · by_cases hkd : (A.kind == kd) = true
        · have HE : Hid (xs.find? (isA nm kd) = some A) := HF.out (by unfold isA; rw [hn, hkd]; rfl)
          obtain ⟨hX, gX⟩ := store9 (.string A.name) (.int .i64 A.kind) (.int .i64 A.f) (.int .i64 A.i) (.string A.s) (.int .i64 A.ty) (.slice A.dv.a A.dv.n A.dv.c) (.slice A.tv.a A.tv.n A.tv.c) (.slice A.iv.a A.iv.n A.iv.c) g0 (show w.heap.size ≤ w.heap.size + 1 by omega) BX.out.2
          have HX := hide hX
          have GX := hide gX
          clear hX gX
          go_wp2
          refine bodyPost_ret (ret_atr rfl _ _ (w.heap.size + 1) rfl HX.out) rfl ?_
          exact ⟨by rw [HE.out]; rfl, GX.out⟩
        · have hkd' : (A.kind == kd) = false := by simpa using hkd
          have HN : Hid (xs.find? (isA nm kd) = (xs.drop (k + 1)).find? (isA nm kd)) := HP.out (by unfold isA; rw [hn, hkd']; rfl)
          clear hkd
          go_wp2
          go_roundw
          case rel => exact ⟨by trivial, k + 1, by omega, by go_num, HN.out⟩
          case measure => simp [intOf]; omega
      · have hn' : (A.name.toList == nm.toList) = false := by simpa using hn
        have HN : Hid (xs.find? (isA nm kd) = (xs.drop (k + 1)).find? (isA nm kd)) := HP.out (by unfold isA; rw [hn']; rfl)
        clear hn
        go_wp2
        go_roundw
        case rel => exact ⟨by trivial, k + 1, by omega, by go_num, HN.out⟩
        case measure => simp [intOf]; omega
    · obtain rfl : k = xs.length := by omega
      have HE : Hid (xs.find? (isA nm kd) = none) := by show _ = _; rw [HPL.out, List.drop_of_length_le (Nat.le_refl _)]; rfl
      obtain ⟨hX, gX⟩ := store9 (.string ⟨#[]⟩) (.int .i64 0) (.int .i64 0) (.int .i64 0) (.string ⟨#[]⟩) (.int .i64 0) (.slice none 0 0) (.slice none 0 0) (.slice none 0 0) g0 (show w.heap.size ≤ w.heap.size + 1 by omega) BX.out.2
      have HX := hide hX
      have GX := hide gX
      clear hX gX
      go_wp2
      refine bodyPost_ret (ret_atr rfl _ _ (w.heap.size + 1) rfl HX.out) rfl ?_
      exact ⟨by rw [HE.out]; rfl, GX.out⟩
end Go.Proofs.YtlmaobkfmplalaaDoor
