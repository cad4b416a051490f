/- Strides, by the walk. -/
import Derived.Test.YteigfipgmghgmaaGreatDoorSCopy
namespace Go.Proofs.YteigfipgmghgmaaGreatDoor
open Go.RowKit

/-- A list of which the last k are filled. -/
def backFill (n k : Nat) (l : List Int) : List Int := List.replicate (n - k) 0 ++ l

theorem backFill_step {n k : Nat} (hk : k < n) (l : List Int) (z : Int) : (backFill n k l).set (n - 1 - k) z = backFill n (k + 1) (z :: l) := by
  unfold backFill
  have e : List.replicate (n - k) (0 : Int) = List.replicate (n - (k + 1)) 0 ++ [0] := by
    rw [show n - k = (n - (k + 1)) + 1 by omega, List.replicate_succ']
  rw [e, show n - 1 - k = n - (k + 1) by omega, List.append_assoc, List.set_append_right _ _ (by simp)]
  simp

theorem strd_back {zs : List Int} {k : Nat} (hk : k < zs.length) : strd (zs.drop (zs.length - (k + 1))) = prod (zs.drop (zs.length - k)) :: strd (zs.drop (zs.length - k)) := by
  rw [drop_step zs (zs.length - (k + 1)) (by omega), show zs.length - (k + 1) + 1 = zs.length - k by omega]
  rfl

theorem back_mul {zs : List Int} {k : Nat} (hk : k < zs.length) : prod (zs.drop (zs.length - (k + 1))) = prod (zs.drop (zs.length - k)) * zs.getD (zs.length - 1 - k) 0 := by
  rw [back_step hk, bh_in hk]

theorem map_set_int (l : List Int) (i : Nat) (z : Int) : (l.map (Value.int .i64)).set i (.int .i64 z) = (l.set i z).map (Value.int .i64) := by
  rw [List.map_set]

theorem made_zeros (n : Nat) : (madeCells (Value.int .i64 0).cells (n * 1)).toList = (List.replicate n (0 : Int)).map (Value.int .i64) := by
  rw [Nat.mul_one, show (Value.int .i64 0).cells = #[Value.int .i64 0] from rfl, toList_madeCells_one]
  simp

theorem strd_le {zs : List Int} (h : Fine zs) : ∀ s ∈ strd zs, 1 ≤ s ∧ s ≤ 65536 := by
  induction zs with
  | nil => intro s hs; simp [strd] at hs
  | cons z zs ih =>
    intro s hs
    have hd : Fine zs := by have := h.drop 1; simpa using this
    rcases List.mem_cons.1 hs with rfl | hs
    · exact ⟨hd.prod_pos, hd.le⟩
    · exact ih hd s hs

theorem ret_err' {zs : List Int} {e : Int} (h : cntE zs = e) : Ending.returned (.tuple #[.slice none 0 0, .int .i64 e]) = Ending.returned (.tuple #[.slice none 0 0, .int .i64 (cntE zs)]) := by rw [h]

/-- A row of the call's own that is filled from the back, at one more place. -/
theorem fill_step {w wr : World} {n k : Nat} {l : List Int} {z : Int} (hk : k < n) (hw : w.grownBy wr none)
    (hown : wr.ownsRow w.heap.size 3 1 (.slice (some ⟨w.heap.size, 0, none⟩) n n) n ((backFill n k l).map (Value.int .i64))) :
    (∃ c, wr.cell? ⟨w.heap.size, n - 1 - k, none⟩ = some c) ∧ wr.frozen? ⟨w.heap.size, n - 1 - k, none⟩ = false ∧
    (wr.setCell ⟨w.heap.size, n - 1 - k, none⟩ (.int .i64 z)).ownsRow w.heap.size 3 1 (.slice (some ⟨w.heap.size, 0, none⟩) n n) n ((backFill n (k + 1) (z :: l)).map (Value.int .i64)) ∧
    w.grownBy (wr.setCell ⟨w.heap.size, n - 1 - k, none⟩ (.int .i64 z)) none := by
  have hl := hown.1
  refine ⟨⟨_, by rw [hown.cellAt (n - 1 - k) (by omega), List.getElem?_eq_getElem (by omega)]⟩, hown.frozenAt _, ?_, grown_trans_row hw (hown.stored (n - 1 - k) (.int .i64 z)).2 (fun g hg => by injection hg with hg; omega)⟩
  have := (hown.stored (n - 1 - k) (.int .i64 z)).1
  rw [map_set_int, backFill_step hk] at this
  exact this

/-- An item of a list that came in, in a later world. -/
theorem item_at {w : World} {b off cap len : Nat} {zs : List Int} (h : IsInts w (.slice (some ⟨b, off, none⟩) len cap) zs) {k : Nat} (hk : k < zs.length) :
    w.cell? ⟨b, off + k, none⟩ = some (.int .i64 (zs.getD k 0)) := by
  obtain ⟨_, _, he, -, -, -, -, h5, -⟩ := h
  obtain ⟨b', off', ho, hc⟩ := h5 (by omega)
  simp only [Value.slice.injEq] at he
  rw [ho] at he
  simp only [Option.some.injEq, Addr.mk.injEq] at he
  obtain ⟨⟨rfl, rfl, -⟩, -⟩ := he
  exact hc k hk

theorem addr_of {w : World} {ao : Option Addr} {cap len : Nat} {zs : List Int} (h : IsInts w (.slice ao len cap) zs) (hk : 0 < zs.length) : ∃ b off, ao = some ⟨b, off, none⟩ := by
  obtain ⟨_, _, he, -, -, -, -, h5, -⟩ := h
  obtain ⟨b', off', ho, -⟩ := h5 hk
  simp only [Value.slice.injEq] at he
  exact ⟨b', off', by rw [he.1, ho]⟩

theorem block_lt {w : World} {b off cap len : Nat} {zs : List Int} (h : IsInts w (.slice (some ⟨b, off, none⟩) len cap) zs) (hk : 0 < zs.length) : b < w.heap.size :=
  World.block_lt_of_cell? w _ (item_at h hk)

/-- What Strides answers: with an error nothing. -/
def strdE (zs : List Int) : List Int := if cntE zs = 0 then strd zs else []

set_option maxHeartbeats 400000 in
theorem strides_any (v : Value) (zs : List Int) (w : World) (h : IsInts w v zs) :
    Calls Tryz.prog 93 #[v] w fun e w' => ∃ u, e = .returned (.tuple #[u, .int .i64 (cntE zs)]) ∧ Owns w' w.heap.size u (strdE zs) ∧ w.grownBy w' none := by
  obtain ⟨i0, hi, hz0, hz1, hz2⟩ := info_parts infoInt
  have hcount := hide (count_any v zs w h)
  have h0 := hide h
  obtain ⟨ao, cap, rfl, h1, h2, h3, -, -, -⟩ := h
  rcases cntE_cases zs with hE | hE | hE
  · have HF := hide (fine_of hE)
    have HE := hide hE
    rw [hE] at hcount
    rw [show strdE zs = strd zs by simp [strdE, hE], hE]
    clear hE
    have hb2 : i0.bytes * zs.length ≤ 281474976710656 := by rw [hz2]; omega
    have hb3 : zs.length ≤ maxLen := by simp only [maxLen]; omega
    go_enter Tryz.func93, Tryz.ntmps93
    go_wp2_with (first | (go_at_call 44; refine hcount.out.mono ?_; rintro e w' ⟨rfl, rfl⟩) | (refine wpList_make_full _ rfl (.tmp 19) (.tmp 19) 29 rfl w.heap.size 3 i0 (.int .i64 0) 1 Tryz.underlying29 hi hz0 hz1 .i64 .i64 _ _ zs.length rfl rfl rfl rfl hb2 hb3 (Nat.le_refl _) ?_; intro w1 hown hgrow))
    rw [made_zeros] at hown
    go_loopw [7, 23] (fun n i wr => w.grownBy wr none ∧ ∃ k : Nat, k ≤ zs.length ∧ i = .int .i64 k ∧ n = .int .i64 (prod (zs.drop (zs.length - k))) ∧
      wr.ownsRow w.heap.size 3 1 (.slice (some ⟨w.heap.size, 0, none⟩) zs.length zs.length) zs.length ((backFill zs.length k (strd (zs.drop (zs.length - k)))).map (Value.int .i64))) (fun _ i _ => zs.length - (intOf i).toNat)
    case atStart => exact ⟨hgrow, 0, Nat.zero_le _, rfl, by simp [prod], by simpa [backFill, strd] using hown⟩
    case round =>
      clear hown hgrow
      obtain ⟨hw, k, hk, rfl, hn, hown⟩ := hrel
      have hd := HF.out.drop (zs.length - k)
      have hp1 := hd.prod_pos
      have hp2 := hd.le
      obtain ⟨p, hpd⟩ : ∃ p, p = prod (zs.drop (zs.length - k)) := ⟨_, rfl⟩
      rw [← hpd] at hn hp1 hp2
      subst hn
      have HPD := hide hpd
      clear hpd hd
      by_cases hkl : k < zs.length
      · obtain ⟨b, off, rfl⟩ := addr_of h0.out (by omega)
        have hb := block_lt h0.out (by omega)
        have hcell := item_at (h0.out.more hw) (k := zs.length - 1 - k) (by omega)
        obtain ⟨⟨c, hc⟩, hf, hown2, hw2⟩ := fill_step (z := p) hkl hw hown
        have hmul := back_mul hkl
        rw [← HPD.out] at hmul
        have hdl := (HF.out.drop (zs.length - (k + 1))).le
        rw [hmul] at hdl
        have hd1 := HF.out.at (zs.length - 1 - k) (by omega)
        obtain ⟨d, hd⟩ : ∃ d, d = zs.getD (zs.length - 1 - k) 0 := ⟨_, rfl⟩
        rw [← hd] at hcell hmul hdl hd1
        have hpd0 : 0 ≤ p * d := Int.mul_nonneg (by omega) (by omega)
        have HM := hide hmul
        have HO := hide hown2
        have HW := hide hw2
        clear hd hmul hown hown2 hw2 hw
        go_wp2
        go_roundw
        case rel =>
          refine ⟨HW.out, k + 1, by omega, by go_num, by rw [HM.out], ?_⟩
          rw [strd_back hkl, ← HPD.out]
          exact HO.out
        case measure => simp [intOf]; omega
      · have HO := hide hown
        clear hown
        go_wp2
        go_ret2
        refine ⟨_, rfl, ⟨?_, ?_, ?_⟩, hw⟩
        · have := HO.out
          rw [show zs.length - k = 0 by omega, show backFill zs.length k (strd (zs.drop 0)) = strd zs by simp [backFill, show zs.length - k = 0 by omega]] at this
          rw [strd_length]
          exact this
        · rw [strd_length]; omega
        · intro s hs
          have := strd_le HF.out s hs
          omega
  all_goals
    have HE := hide hE
    rw [hE] at hcount
    rw [show strdE zs = [] by simp [strdE, hE], hE]
    clear hE
    go_enter Tryz.func93, Tryz.ntmps93
    go_wp2_with (go_at_call 44; refine hcount.out.mono ?_; rintro e w' ⟨rfl, rfl⟩)
    go_ret2
    exact ⟨_, rfl, owns_nil _ _, grown_refl _⟩
end Go.Proofs.YteigfipgmghgmaaGreatDoor
