/- mandrellaw09.small, told more, by the walk (out of ESmall, by mkLEMayW.py). -/
import Derived.Test.YteigfipgmghgmaaGreatDoorETen
namespace Go.Proofs.YteigfipgmghgmaaGreatDoor
open Go.RowKit

def ToldF (k : Nat) (w : World) (e : Ending) (w' : World) : Prop := ∃ b, e = .returned (.bool b) ∧ (b = true → k ≤ 6) ∧ w.grownBy w' none

set_option maxRecDepth 100000 in
set_option maxHeartbeats 4000000 in
theorem small9_few (u : Sl) (ps : List (Ten × Tq)) (w : World) (hv : TensIn w u.v ps) : Calls Tryz.prog 6 #[.slice u.a u.n u.c] w (ToldF ps.length w) := by
  obtain ⟨xa, xc, e1, p1, p2, p3⟩ := hv.vals.form
  rw [List.length_map] at e1 p1 p3
  obtain ⟨ua, un, uc⟩ := u
  simp only [Sl.v, Value.slice.injEq] at e1
  obtain ⟨rfl, rfl, rfl⟩ := e1
  have HV := hide hv
  clear hv
  go_enter Tryz.func6, Tryz.ntmps6
  go_wp2_with fail
  go_loopw [3, 4] (fun n i wr => w.grownBy wr none ∧ ∃ (k m : Nat), k ≤ ps.length ∧ m ≤ 65536 ∧ i = .int .i64 k ∧ n = .int .i64 m) (fun _ i _ => ps.length - (intOf i).toNat)
  case atStart => exact ⟨grown_refl _, 0, 1, Nat.zero_le _, by omega, rfl, rfl⟩
  case round =>
    obtain ⟨hg, k, m, hk, hm, rfl, rfl⟩ := hrel
    have HG := hide hg
    by_cases hlt : k < ps.length
    · obtain ⟨b, off, rfl⟩ := HV.out.vals.addr (k := k) (by rw [List.length_map]; exact hlt)
      obtain ⟨-, -, a2⟩ := (HV.out.more hg).at k hlt
      obtain ⟨⟨ta, tn, tc⟩, hp⟩ : ∃ p, p = ps[k].1.tv := ⟨_, rfl⟩
      rw [← hp] at a2
      simp only at a2
      clear hp hg
      by_cases hb : 4096 < tn
      · have hb' : (4096 : Int) < tn := by omega
        go_wp2
        go_ret
        exact ⟨_, rfl, (fun h => by cases h), HG.out⟩
      · have hb' : ¬ (4096 : Int) < tn := by omega
        obtain ⟨q, hq⟩ : ∃ q : Nat, q = m * max 1 tn := ⟨_, rfl⟩
        have hq1 : q ≤ 65536 * 4096 := by
          rw [hq]
          exact Nat.mul_le_mul hm (by omega)
        have hq2 : wrap64 ((m : Int) * max 1 (tn : Int)) = (q : Int) := by
          have e : (m : Int) * max 1 (tn : Int) = (q : Int) := by
            rw [hq, Int.natCast_mul]
            congr 1
            omega
          rw [e]
          unfold wrap64
          omega
        clear hq
        by_cases hbig : 65536 < q
        · have hbig' : (65536 : Int) < q := by omega
          go_wp2
          go_ret
          exact ⟨_, rfl, (fun h => by cases h), HG.out⟩
        · have hbig' : ¬ (65536 : Int) < q := by omega
          go_wp2_with fail
          go_roundw
          case rel => exact ⟨HG.out, k + 1, q, by omega, by omega, by go_num, by rw [hq2]⟩
          case measure => simp [intOf]; omega
    · obtain rfl : k = ps.length := by omega
      clear hg
      go_wp2
      go_ret
      exact ⟨_, rfl, (fun h => by have := of_decide_eq_true h; omega), HG.out⟩
end Go.Proofs.YteigfipgmghgmaaGreatDoor
