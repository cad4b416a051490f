/- The document's readers, by the walk. -/
import Derived.Test.YtmdpeckeliplkaaDoorPartJ
namespace Go.Proofs.YtmdpeckeliplkaaDoor
open Go.RowKit

set_option maxRecDepth 100000 in
set_option maxHeartbeats 1600000 in
theorem gamong_any (x : ByteArray) (v : Value) (xs : List ByteArray) (w : World) (hv : IsStrs w v xs) :
    Calls Tryd.prog 50 #[.string x, v] w fun e w' => e = .returned (.bool (xs.any (isS x))) ∧ w.grownBy w' none := by
  have HV := hide hv
  obtain ⟨va, vc, rfl, h1, h2, h3⟩ := hv.form
  clear hv
  go_enter Tryd.func50, Tryd.ntmps50
  go_wp2_with fail
  go_loopw [5] (fun i wr => w.grownBy wr none ∧ ∃ k : Nat, k ≤ xs.length ∧ i = .int .i64 k ∧ (xs.take k).any (isS x) = false) (fun i _ => xs.length - (intOf i).toNat)
  case atStart => exact ⟨grown_refl _, 0, Nat.zero_le _, rfl, rfl⟩
  case round =>
    obtain ⟨hg, k, hk, rfl, hno⟩ := hrel
    have HNO := hide hno
    clear hno
    by_cases hlt : k < xs.length
    · have HVk := HV.out.more hg
      obtain ⟨vb, vo, rfl⟩ := HVk.addr hlt
      have a0 := str_at HVk k hlt
      have HK : Hid (xs[k]? = some xs[k]) := List.getElem?_eq_getElem hlt
      obtain ⟨Y, hY⟩ : ∃ Y, Y = xs[k] := ⟨_, rfl⟩
      rw [← hY] at a0 HK
      clear HVk hY
      by_cases h : (Y.toList == x.toList) = true
      · have E : Hid (xs.any (isS x) = true) := List.any_eq_true.2 ⟨Y, List.mem_of_getElem? HK.out, by unfold isS; rw [BEq.comm]; exact h⟩
        go_wp2
        go_ret
        exact ⟨by rw [E.out]; rfl, hg⟩
      · have h' : (Y.toList == x.toList) = false := by simpa using h
        have HN : Hid ((xs.take (k + 1)).any (isS x) = false) := by
          show _ = _
          rw [List.take_add_one, List.any_append, HNO.out, HK.out]
          have h2 : (x.toList == Y.toList) = false := by rw [BEq.comm]; exact h'
          simp [isS, h2]
        clear h
        go_wp2
        go_roundw
        case rel => exact ⟨hg, k + 1, by omega, by go_num, HN.out⟩
        case measure => simp [intOf]; omega
    · obtain rfl : k = xs.length := by omega
      have E : Hid (xs.any (isS x) = false) := by have := HNO.out; rwa [List.take_of_length_le (Nat.le_refl _)] at this
      go_wp2
      go_ret
      exact ⟨by rw [E.out]; rfl, hg⟩

end Go.Proofs.YtmdpeckeliplkaaDoor
