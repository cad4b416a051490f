/- Count of the code, by the walk: what it answers of any list. -/
import Derived.Test.YteigfipgmghgmaaGreatDoorSMem
namespace Go.Proofs.YteigfipgmghgmaaGreatDoor
open Go.RowKit

/-- The dimension that has i others behind it, or 1. -/
def bh (zs : List Int) (i : Nat) : Int := if zs.length ≤ i then 1 else zs.getD (zs.length - 1 - i) 0

theorem behind_any (v : Value) (zs : List Int) (i : Nat) (w : World) (h : IsInts w v zs) (hi : i ≤ 1000000000000) :
    Calls Tryz.prog 67 #[v, .int .i64 i] w fun e w' => e = .returned (.int .i64 (bh zs i)) ∧ w = w' := by
  obtain ⟨ao, cap, rfl, h1, h2, h3, h4, h5, h6⟩ := h
  by_cases hl : zs.length ≤ i
  · have hb : bh zs i = 1 := by simp [bh, hl]
    rw [hb]
    clear h4 h5 h6 hb
    go_enter Tryz.func67, Tryz.ntmps67
    go_wp2
    go_ret
    exact ⟨rfl, rfl⟩
  · obtain ⟨b, off, rfl, hc⟩ := h5 (by omega)
    have hb : bh zs i = zs.getD (zs.length - 1 - i) 0 := by simp [bh, hl]
    have hcell : w.cell? ⟨b, off + (zs.length - 1 - i), none⟩ = some (.int .i64 (bh zs i)) := by rw [hb]; exact hc _ (by omega)
    clear h4 h5 h6 hb hc
    go_enter Tryz.func67, Tryz.ntmps67
    go_wp2
    go_ret
    exact ⟨rfl, rfl⟩

theorem exists_low {zs : List Int} {k : Nat} (hk : k < zs.length) {z : Int} (hz : z = zs.getD k 0) (h : z < 1) : ∃ z ∈ zs, z < 1 :=
  ⟨zs.getD k 0, by simp [List.getD, hk], by omega⟩

theorem all_of {zs : List Int} {p : Int → Prop} (h : ∀ t, t < zs.length → p (zs.getD t 0)) : ∀ z ∈ zs, p z := by
  intro z hz
  obtain ⟨t, ht, rfl⟩ := List.mem_iff_getElem.1 hz
  have := h t ht
  simpa [List.getD, ht] using this

theorem beq_zero_false {E : Int} (h : ¬ E = 0) : (E == 0) = false := by simpa using h
theorem lt_succ_cases {k t : Nat} (h : t < k + 1) : t < k ∨ t = k := by omega

theorem ret_err {zs : List Int} {e : Int} (h : cntE zs = e) (he : e ≠ 0) : Ending.returned (.tuple #[.int .i64 0, .int .i64 e]) = Ending.returned (.tuple #[.int .i64 (cnt zs), .int .i64 (cntE zs)]) := by
  rw [h, cnt_err (by rw [h]; exact he)]

theorem bh_in {zs : List Int} {k : Nat} (hk : k < zs.length) : bh zs k = zs.getD (zs.length - 1 - k) 0 := by
  unfold bh; rw [if_neg (by omega)]

theorem back_step {zs : List Int} {k : Nat} (hk : k < zs.length) : prod (zs.drop (zs.length - (k + 1))) = prod (zs.drop (zs.length - k)) * bh zs k := by
  rw [prod_drop_step zs (zs.length - (k + 1)) (by omega), bh_in hk, Int.mul_comm, show zs.length - (k + 1) + 1 = zs.length - k by omega, show zs.length - (k + 1) = zs.length - 1 - k by omega]

theorem bh_pos {zs : List Int} {k : Nat} (h : ∀ z ∈ zs, 1 ≤ z) : 1 ≤ bh zs k := by
  unfold bh
  split
  · omega
  · exact h _ (by rw [List.getD, List.getElem?_eq_getElem (by omega)]; simp)

theorem div_test {p d : Int} (hp : 1 ≤ p) : 65536 / p < d ↔ 65536 < p * d := by
  rw [Int.ediv_lt_iff_lt_mul (by omega), Int.mul_comm]

theorem count_any (v : Value) (zs : List Int) (w : World) (h : IsInts w v zs) :
    Calls Tryz.prog 44 #[v] w fun e w' => e = .returned (.tuple #[.int .i64 (cnt zs), .int .i64 (cntE zs)]) ∧ w = w' := by
  have h0 := h
  obtain ⟨ao, cap, rfl, h1, h2, h3, h4, h5, h6⟩ := h
  go_enter Tryz.func44, Tryz.ntmps44
  go_wp2
  go_loopw [11] (fun i wr => wr = w ∧ ∃ k : Nat, k ≤ zs.length ∧ i = .int .i64 k ∧ ∀ t, t < k → 1 ≤ zs.getD t 0) (fun i _ => zs.length - (intOf i).toNat)
  case atStart => exact ⟨rfl, 0, Nat.zero_le _, rfl, fun t h => absurd h (by omega)⟩
  case round =>
    obtain ⟨hw, k, hk, rfl, hp⟩ := hrel
    subst hw
    have HP : Hid (∀ t, t < k → 1 ≤ zs.getD t 0) := hp
    clear hp
    by_cases hkl : k < zs.length
    · obtain ⟨b, off, rfl, hc⟩ := h5 (by omega)
      obtain ⟨z, hz⟩ : ∃ z, z = zs.getD k 0 := ⟨_, rfl⟩
      have hcell := hc k hkl
      rw [← hz] at hcell
      have HZ : Hid (z = zs.getD k 0) := hz
      clear hz hc
      by_cases hz1 : z < 1
      · have HE : Hid (cntE zs = 4) := cntE_low (exists_low hkl HZ.out hz1)
        go_wp2
        go_ret2
        exact ⟨ret_err HE.out (by decide), rfl⟩
      · go_wp2
        go_roundw
        case rel =>
          refine ⟨by trivial, k + 1, by omega, by go_num, fun t ht => ?_⟩
          rcases lt_succ_cases ht with h | rfl
          · exact HP.out t h
          · have := HZ.out; omega
        case measure => simp [intOf]; omega
    · have hp : ∀ z ∈ zs, 1 ≤ z := all_of (fun t ht => HP.out t (by omega))
      have hP : Hid (∀ z ∈ zs, 1 ≤ z) := hp
      clear HP hp
      by_cases h7 : 6 < zs.length
      · have HE : Hid (cntE zs = 6) := cntE_many hP.out h7
        go_wp2
        go_ret2
        exact ⟨ret_err HE.out (by decide), rfl⟩
      · go_wp2
        go_loopw [6, 23] (fun n i w' => w' = wr ∧ ∃ k : Nat, k ≤ zs.length ∧ i = .int .i64 k ∧ n = .int .i64 (prod (zs.drop (zs.length - k))) ∧ prod (zs.drop (zs.length - k)) ≤ 65536) (fun _ i _ => zs.length - (intOf i).toNat)
        case atStart => exact ⟨rfl, 0, Nat.zero_le _, rfl, by simp [prod], by simp [prod]⟩
        case round =>
          obtain ⟨hw, j, hj, rfl, hn, hle⟩ := hrel
          subst hw
          have hp1 := prod_pos _ (pos_drop hP.out (zs.length - j))
          obtain ⟨p, hpd⟩ : ∃ p, p = prod (zs.drop (zs.length - j)) := ⟨_, rfl⟩
          rw [← hpd] at hn hle hp1
          subst hn
          have HPD : Hid (p = prod (zs.drop (zs.length - j))) := hpd
          clear hpd
          by_cases hjl : j < zs.length
          · have hb := behind_any _ zs j _ h0 (by omega)
            have hd1 := bh_pos (k := j) hP.out
            have hst := back_step hjl
            rw [← HPD.out] at hst
            obtain ⟨d, hd⟩ : ∃ d, d = bh zs j := ⟨_, rfl⟩
            rw [← hd] at hb hd1 hst
            have HST : Hid (prod (zs.drop (zs.length - (j + 1))) = p * d) := hst
            have HB := hide hb
            clear hst hb hd
            by_cases ht : 65536 / p < d
            · have HE : Hid (cntE zs = 6) := cntE_great hP.out (by
                have h1 := (div_test hp1).1 ht
                have h2 := prod_drop_le hP.out (zs.length - (j + 1))
                rw [HST.out] at h2
                omega)
              go_wp2_with (go_at_call 67; refine (HB.out).mono ?_; rintro e w' ⟨rfl, rfl⟩)
              go_ret2
              exact ⟨ret_err HE.out (by decide), rfl⟩
            · have hle2 : p * d ≤ 65536 := by
                have h1 := mt (div_test hp1).2 ht
                omega
              have hge2 : 0 ≤ p * d := Int.mul_nonneg (by omega) (by omega)
              go_wp2_with (go_at_call 67; refine (HB.out).mono ?_; rintro e w' ⟨rfl, rfl⟩)
              go_roundw
              case rel => exact ⟨by trivial, j + 1, by omega, by go_num, by rw [HST.out], by rw [HST.out]; exact hle2⟩
              case measure => simp [intOf]; omega
          · have HE : Hid (Fine zs) := ⟨hP.out, by omega, by have := HPD.out; rw [show zs.length - j = 0 by omega] at this; simp at this; omega⟩
            have HN : Hid (p = cnt zs) := by show p = cnt zs; rw [HE.out.cnt]; have := HPD.out; rw [show zs.length - j = 0 by omega] at this; simpa using this
            go_wp2
            go_ret2
            exact ⟨by rw [HE.out.ok, ← HN.out]; rfl, rfl⟩
end Go.Proofs.YteigfipgmghgmaaGreatDoor
