/- move.whole, by the walk. -/
import Derived.Test.YtfladhogkhhlcaaGreatDoorPartV
namespace Go.Proofs.YtfladhogkhhlcaaGreatDoor
open Go.RowKit

theorem take_set (l : List Int) (k : Nat) (hk : k < l.length) : (l.take k ++ List.replicate (l.length - k) (0 : Int)).set k (l.getD k 0) = l.take (k + 1) ++ List.replicate (l.length - (k + 1)) 0 := by
  rw [List.set_append_right _ _ (by rw [List.length_take]; omega), List.length_take, Nat.min_eq_left (by omega), Nat.sub_self, show l.length - k = (l.length - (k + 1)) + 1 from by omega, List.replicate_succ, List.set_cons_zero, List.take_add_one, List.getElem?_eq_getElem (by omega), Option.toList_some, List.append_assoc]
  have e : l.getD k 0 = l[k] := by simp [List.getD, hk]
  rw [e]
  rfl

set_option maxRecDepth 100000 in
set_option maxHeartbeats 8000000 in
theorem mwhole_any (u : Sl) (l : List Int) (w : World) (hv : IsInts w u.v l) (hl : l.length ≤ 1000) : Calls Tryz.prog 27 #[.slice u.a u.n u.c] w fun e w' => ∃ v : Sl, e = .returned v.v ∧ IsInts w' v.v l ∧ w.grownBy w' none := by
  obtain ⟨i0, hi0, hz0, hz1, hz2⟩ := info_parts infoInt
  obtain ⟨ua, un, uc⟩ := u
  obtain ⟨ux, c, eu, c1, c2, c3⟩ := hv.sl
  simp only [Sl.v, Value.slice.injEq] at eu
  obtain ⟨rfl, rfl, rfl⟩ := eu
  have HV := hide hv
  have hb4 : i0.bytes * l.length ≤ 281474976710656 := by rw [hz2]; omega
  have hb5 : l.length ≤ maxLen := by simp only [maxLen]; omega
  clear hv
  go_enter Tryz.func27, Tryz.ntmps27
  go_wp2_with (first | (refine wpList_make_full _ rfl (.tmp 7) (.tmp 7) 22 rfl w.heap.size 3 i0 (.int .i64 0) 1 Tryz.underlying22 hi0 hz0 hz1 .i64 .i64 _ _ l.length rfl rfl (by omega) (by omega) hb4 hb5 (Nat.le_refl _) ?_; intro w1 hown1 hg1))
  rw [made_zeros] at hown1
  have O1 := hide (owns_zeros (by omega) hown1)
  have G1 := hide hg1
  clear hown1 hg1 hb4 hb5
  go_wp2
  go_loopw [11] (fun x wr => w.grownBy wr none ∧ ∃ k : Nat, k ≤ l.length ∧ x = .int .i64 k ∧ Owns wr w.heap.size (.slice (some ⟨w.heap.size, 0, none⟩) l.length l.length) (l.take k ++ List.replicate (l.length - k) 0)) (fun x _ => l.length - (intOf x).toNat)
  case atStart => exact ⟨G1.out, 0, Nat.zero_le _, rfl, by simpa using O1.out⟩
  case round =>
    obtain ⟨hg, k, hk, rfl, o1⟩ := hrel
    have HG := hide hg
    have P1 := hide o1
    clear o1
    by_cases hlt : k < l.length
    · obtain ⟨b, off, rfl, hc⟩ := HV.out.get hlt
      have hcell := cell_still (hc k hlt) hg
      obtain ⟨a1, a2, a3, a4⟩ := owns_put P1.out (by rw [List.length_append, List.length_take, List.length_replicate]; omega) hlt (l.getD k 0) (HV.out.wf _ (by rw [List.getD, List.getElem?_eq_getElem hlt]; simp))
      rw [take_set l k hlt] at a3
      have N1 := hide a3
      have NG := hide (grown_drop hg a4 (Nat.le_refl _))
      obtain ⟨ov, hov⟩ : ∃ q, q = (l.take k ++ List.replicate (l.length - k) (0 : Int)).getD k 0 := ⟨_, rfl⟩
      rw [← hov] at a1
      obtain ⟨z, hz⟩ : ∃ z, z = l.getD k 0 := ⟨_, rfl⟩
      rw [← hz] at hcell N1 NG
      have l1 : (k : Int) < (l.length : Int) := by omega
      clear a3 a4 hg hov hz hc
      go_wp2_with fail
      go_roundw
      case rel => exact ⟨NG.out, k + 1, hlt, by go_num, N1.out⟩
      case measure => simp [intOf]; omega
    · obtain rfl : k = l.length := by omega
      have E1 : l.take l.length ++ List.replicate (l.length - l.length) (0 : Int) = l := by simp
      have P1' := P1.out
      rw [E1] at P1'
      have F := hide P1'.ints
      clear P1' E1 P1 hg
      go_wp2
      go_ret
      exact ⟨⟨some ⟨w.heap.size, 0, none⟩, l.length, l.length⟩, rfl, F.out, HG.out⟩
end Go.Proofs.YtfladhogkhhlcaaGreatDoor
