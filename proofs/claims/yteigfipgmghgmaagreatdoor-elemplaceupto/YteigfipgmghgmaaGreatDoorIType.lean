/- Types: all alike, by the walk. -/
import Derived.Test.YteigfipgmghgmaaGreatDoorIDim2
import Derived.BigQuiet
import Derived.Deep.RegionWith
namespace Go.Proofs.YteigfipgmghgmaaGreatDoor
open Go.RowKit

/-- Values that come in: what their lists hold. -/
structure ValsIn (w : World) (v : Value) (vs : List (Val × List Int)) : Prop where
  vals : IsVals w v (vs.map (·.1))
  dims : ∀ p ∈ vs, IsInts w p.1.dv.v p.2

theorem ValsIn.more {w w' : World} {v : Value} {vs : List (Val × List Int)} (h : ValsIn w v vs) (hg : w.grownBy w' none) : ValsIn w' v vs := ⟨h.vals.more hg, fun p hp => (h.dims p hp).more hg⟩

/-- The type that all have, if they are alike. -/
def sameP : List Int → R Int
  | [] => .ok 0
  | t :: l => if l.all (fun s => s == t) = true then .ok t else .error 4

set_option maxRecDepth 100000 in
set_option maxHeartbeats 1000000 in
theorem sametype_any (u : Sl) (vs : List (Val × List Int)) (w : World) (hv : ValsIn w u.v vs) (hp : 0 < vs.length) (hf : vs.length ≤ 1000000) : Calls Tryz.prog 105 #[.slice u.a u.n u.c] w (Ended w (sameP (vs.map (·.1.ty))) fun t v _ => v = .int .i64 t) := by
  obtain ⟨xa, xc, e1, p1, p2, p3⟩ := hv.vals.form
  rw [List.length_map] at e1 p1 p3
  obtain ⟨ua, un, uc⟩ := u
  simp only [Sl.v, Value.slice.injEq] at e1
  obtain ⟨rfl, rfl, rfl⟩ := e1
  have HV := hide hv.vals
  have hl : (vs.map (·.1)).length = vs.length := by simp
  obtain ⟨b, off, rfl⟩ := hv.vals.addr (k := 0) (by rw [hl]; exact hp)
  obtain ⟨z0, z1, z2⟩ := hv.vals.val 0 (by rw [hl]; exact hp)
  rw [Nat.zero_mul, Nat.add_zero, List.getElem_map] at z1
  obtain ⟨T, hT⟩ : ∃ T, T = vs[0].1.ty := ⟨_, rfl⟩
  rw [← hT] at z1
  have Z1 := hide z1
  have HT := hide hT
  clear hv z0 z1 z2 hT
  go_enter Tryz.func105, Tryz.ntmps105
  go_wp2
  go_loopw [7] (fun i wr => ∃ k : Nat, k ≤ vs.length ∧ i = .int .i64 k ∧ (∀ j (hj : j < vs.length), j < k → vs[j].1.ty = T) ∧ w.grownBy wr none) (fun i _ => vs.length - (intOf i).toNat)
  case atStart => exact ⟨0, Nat.zero_le _, rfl, fun j hj h => absurd h (by omega), grown_refl _⟩
  case round =>
    obtain ⟨k, hk, rfl, hall, hg⟩ := hrel
    have HA := hide hall
    have HG := hide hg
    by_cases hkl : k < vs.length
    · have h2 := HV.out.more hg
      obtain ⟨y0, y1, y2⟩ := h2.val k (by rw [hl]; exact hkl)
      rw [List.getElem_map] at y0 y1 y2
      have z1 : wr.cell? ⟨b, off + 1, none⟩ = some (.int .i64 T) := cell_still Z1.out hg
      have HK : Hid (vs[k].1.ty = vs[k].1.ty) := rfl
      obtain ⟨v, hvv⟩ : ∃ v, v = vs[k].1 := ⟨_, rfl⟩
      rw [← hvv] at y0 y1 y2 HK
      obtain ⟨vn, vt, ⟨da, dn, dc⟩⟩ := v
      simp only at y0 y1 y2
      have HVV := hide hvv
      obtain ⟨w1, hw1⟩ : ∃ w1, w1 = wr.alloc (.cells #[.string vn, .int .i64 vt, .slice da dn dc] 53) := ⟨_, rfl⟩
      have g1 : Hid (w.grownBy w1 none) := by show w.grownBy w1 none; rw [hw1]; exact grown_trans hg (grown_new _ _)
      have hb1 := heap_alloc_new wr (.cells #[.string vn, .int .i64 vt, .slice da dn dc] 53)
      rw [← hw1] at hb1
      have q1 : w1.cell? ⟨wr.heap.size, 1, none⟩ = some (.int .i64 vt) := (cell_of_row _ _ 1 _ _ (0, 0) hb1).trans rfl
      have z1' : w1.cell? ⟨b, off + 1, none⟩ = some (.int .i64 T) := cell_still Z1.out g1.out
      clear hb1 hvv hall hg h2
      go_wp2_with fail
      rw [← hw1]
      clear hw1 y0 y1 y2 z1
      have hp' : (0 : Int) < (vs.length : Int) := by omega
      by_cases hd : vt = T
      · have bd : (vt == T) = true := by simp [hd]
        go_quiet (first | (go_at_call 71; refine (must_yes _).mono ?_; rintro e w' ⟨rfl, rfl⟩; exact ⟨rfl, _, rfl⟩) | fail)
        have HKT : Hid (∀ j (hj : j < vs.length), j < k + 1 → vs[j].1.ty = T) := fun j hj h => by
          rcases lt_succ_cases h with h | rfl
          · exact HA.out j hj h
          · rw [← HVV.out]; exact hd
        clear hd bd
        go_wp2_with fail
        go_roundw
        case rel => exact ⟨k + 1, by omega, by go_num, HKT.out, ⟨g1.out.os, g1.out.tape, g1.out.output, g1.out.size, g1.out.block⟩⟩
        case measure => simp [intOf]; omega
      · have bd : (vt == T) = false := by simpa using hd
        have E : Hid (sameP (vs.map (·.1.ty)) = .error 4) := by
          show _ = _
          cases vs with
          | nil => simp at hp
          | cons p l =>
            have hT2 : T = p.1.ty := HT.out
            simp only [List.map_cons, sameP]
            rw [if_neg]
            intro h
            rw [List.all_eq_true] at h
            cases k with
            | zero => exact hd (by have := HVV.out; simp at this; rw [hT2, ← this])
            | succ k =>
              have h3 : k < l.length := by simpa using hkl
              have := h (l[k].1.ty) (List.mem_map.2 ⟨l[k], List.getElem_mem h3, rfl⟩)
              refine hd ?_
              have h4 := HVV.out
              simp only [List.getElem_cons_succ] at h4
              rw [hT2, ← beq_iff_eq.1 this, ← h4]
        clear hd
        refine wp_region_held_drew (S := (fun w' => w'.cell? ⟨wr.heap.size, 1, none⟩ = some (.int .i64 vt) ∧ w'.cell? ⟨b, off + 1, none⟩ = some (.int .i64 T))) (by kernel_rfl) (by go_keep) (fun hHeld => ?_)
        refine wpAnyH_take (i := 0) (v := ?_) rfl (by kernel_rfl) (by kernel_rfl) (by kernel_rfl) (fun _ _ _ h => h) (Or.inl ⟨by rfl, ?_⟩) (by assumption) ?_
        rotate_left 1
        · (intro w hSw; (try dsimp only at hSw); go_simp; (try with_reducible rfl))
        try simp only [Act.put]
        refine wpAnyH_take (i := 1) (v := ?_) rfl (by kernel_rfl) (by kernel_rfl) (by kernel_rfl) (fun _ _ _ h => h) (Or.inl ⟨by rfl, ?_⟩) (by assumption) ?_
        rotate_left 1
        · (intro w hSw; (try dsimp only at hSw); go_simp; (try with_reducible rfl))
        try simp only [Act.put]
        refine wpAnyH_take (i := 2) (v := ?_) rfl (by kernel_rfl) (by kernel_rfl) (by kernel_rfl) (fun _ _ _ h => h) (Or.inl ⟨by rfl, ?_⟩) (by assumption) ?_
        rotate_left 1
        · (intro w hSw; (try dsimp only at hSw); go_simp; (try with_reducible rfl))
        try simp only [Act.put]
        refine wpAnyH_take (i := 3) (v := ?_) rfl (by kernel_rfl) (by kernel_rfl) (by kernel_rfl) (fun _ _ _ h => h) (Or.inl ⟨by rfl, ?_⟩) (by assumption) ?_
        rotate_left 1
        · (intro w hSw; (try dsimp only at hSw); go_simp; (try with_reducible rfl))
        try simp only [Act.put]
        refine wpAnyH_take (i := 4) (v := ?_) rfl (by kernel_rfl) (by kernel_rfl) (by kernel_rfl) (fun _ _ _ h => h) (Or.inl ⟨by rfl, ?_⟩) (by assumption) ?_
        rotate_left 1
        · (intro w hSw; (try dsimp only at hSw); go_simp; (try with_reducible rfl))
        try simp only [Act.put]
        refine wpAnyH_take (i := 5) (v := ?_) rfl (by kernel_rfl) (by kernel_rfl) (by kernel_rfl) (fun _ _ _ h => h) (Or.inl ⟨by rfl, ?_⟩) (by assumption) ?_
        rotate_left 1
        · (intro w hSw; (try dsimp only at hSw); go_simp; (try with_reducible rfl))
        try simp only [Act.put]
        refine wpAnyH_take (i := 6) (v := ?_) rfl (by kernel_rfl) (by kernel_rfl) (by kernel_rfl) (fun _ _ _ h => h) (Or.inl ⟨by rfl, ?_⟩) (by assumption) ?_
        rotate_left 1
        · (intro w hSw; (try dsimp only at hSw); go_simp; (try with_reducible rfl))
        try simp only [Act.put]
        refine wpAnyH_ready (rs := [7]) (by kernel_rfl) (by simp) ?_
        refine AllReadyH.cons rfl (fun K hK => ?_) AllReadyH.nil
        go_simp
        refine (must_no _).mono ?_
        rintro e wy ⟨rfl, rfl⟩; exact ⟨rfl, ended_err E.out (grown_drew g1.out)⟩
    · have E : Hid (sameP (vs.map (·.1.ty)) = .ok T) := by
        show _ = _
        cases vs with
        | nil => simp at hp
        | cons p l =>
          have hT2 : T = p.1.ty := HT.out
          simp only [List.map_cons, sameP]
          rw [if_pos, hT2]
          rw [List.all_eq_true]
          intro s hs
          obtain ⟨q, hq, rfl⟩ := List.mem_map.1 hs
          obtain ⟨j, hj, rfl⟩ := List.mem_iff_getElem.1 hq
          have := HA.out (j + 1) (by simpa using hj) (by simp at hkl ⊢; omega)
          simp only [List.getElem_cons_succ] at this
          simp [this, hT2]
      have z1 : wr.cell? ⟨b, off + 1, none⟩ = some (.int .i64 T) := cell_still Z1.out hg
      have hp' : (0 : Int) < (vs.length : Int) := by omega
      clear hall hg
      go_wp2
      go_ret
      exact ended_ok E.out HG.out rfl
end Go.Proofs.YteigfipgmghgmaaGreatDoor
