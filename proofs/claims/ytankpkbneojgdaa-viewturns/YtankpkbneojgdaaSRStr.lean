/- The document's Strides, by the walk. -/
import Derived.Test.YtankpkbneojgdaaSStr
namespace Go.Proofs.Ytankpkbneojgdaa
open Go.RowKit

/-- A list of which the first k are filled. -/
def foreFill (n k : Nat) (l : List Int) : List Int := l.take k ++ List.replicate (n - k) 0

theorem foreFill_step {n k : Nat} {l : List Int} (hk : k < n) (hl : l.length = n) (z : Int) (hz : z = l.getD k 0) : (foreFill n k l).set k z = foreFill n (k + 1) l := by
  unfold foreFill
  rw [take_step l k (by omega), ← hz, List.set_append_right _ _ (by simp; omega), show n - k = (n - (k + 1)) + 1 by omega, List.replicate_succ]
  simp [show min k l.length = k by omega]

/-- A part of a list, from a place on, and up to a length. -/
theorem sub_ints {w : World} {b off cap len : Nat} {zs : List Int} (h : IsInts w (.slice (some ⟨b, off, none⟩) len cap) zs) (k n : Nat) {o' n' c' : Nat} (hk : k + n ≤ zs.length) (hn : n' = n) (hc : n' ≤ c') (hc' : c' ≤ 9223372036854775807) (ho : 0 < n → o' = off + k) :
    IsInts w (.slice (some ⟨b, o', none⟩) n' c') ((zs.drop k).take n) := by
  have hlen : ((zs.drop k).take n).length = n := by simp; omega
  refine ⟨_, _, by rw [hlen, hn], by rw [hlen]; omega, hc', by have := h.le; rw [hlen]; omega, (fun h => by cases h), fun hl => ⟨b, o', rfl, fun t ht => ?_⟩, fun z hz => h.wf z (List.mem_of_mem_drop (List.mem_of_mem_take hz))⟩
  rw [hlen] at hl ht
  rw [ho hl, Nat.add_assoc, item_at h (by omega)]
  simp [List.getD, ht]

theorem drop_all {zs : List Int} {k : Nat} (_hk : k ≤ zs.length) : (zs.drop k).take (zs.length - k) = zs.drop k := List.take_of_length_le (by simp)

theorem fore_step {w wr : World} {n k : Nat} {l : List Int} {z : Int} (hk : k < n) (hl : l.length = n) (hz : z = l.getD k 0) (hw : w.grownBy wr none)
    (hown : wr.ownsRow w.heap.size 3 1 (.slice (some ⟨w.heap.size, 0, none⟩) n n) n ((foreFill n k l).map (Value.int .i64))) :
    (∃ c, wr.cell? ⟨w.heap.size, k, none⟩ = some c) ∧ wr.frozen? ⟨w.heap.size, k, none⟩ = false ∧
    (wr.setCell ⟨w.heap.size, k, none⟩ (.int .i64 z)).ownsRow w.heap.size 3 1 (.slice (some ⟨w.heap.size, 0, none⟩) n n) n ((foreFill n (k + 1) l).map (Value.int .i64)) ∧
    w.grownBy (wr.setCell ⟨w.heap.size, k, none⟩ (.int .i64 z)) none := by
  have hl' := hown.1
  refine ⟨⟨_, by rw [hown.cellAt k (by omega), List.getElem?_eq_getElem (by omega)]⟩, hown.frozenAt _, ?_, grown_trans_row hw (hown.stored k (.int .i64 z)).2 (fun g hg => by injection hg with hg; omega)⟩
  have := (hown.stored k (.int .i64 z)).1
  rw [map_set_int, foreFill_step hk hl z hz] at this
  exact this

set_option maxHeartbeats 400000 in
theorem refstrides_any (v : Value) (zs : List Int) (w : World) (h : IsInts w v zs) :
    Calls Try.prog 23 #[v] w fun e w' => ∃ u, e = .returned (.tuple #[u, .int .i64 (cntE zs)]) ∧ Owns w' w.heap.size u (strdE zs) ∧ w.grownBy w' none := by
  obtain ⟨i0, hi, hz0, hz1, hz2⟩ := info_parts infoInt
  have hcount := hide (refcount_any v zs w h)
  have h0 := hide h
  obtain ⟨ao, cap, rfl, h1, h2, h3, -, -, -⟩ := h
  rcases cntE_cases zs with hE | hE | hE
  · have HF := hide (fine_of hE)
    have HE := hide hE
    rw [hE] at hcount
    rw [show strdE zs = strd zs by simp [strdE, hE], hE]
    clear hE
    have hb2 : i0.bytes * zs.length ≤ 281474976710656 := by rw [hz2]; omega
    have hb3 : zs.length ≤ maxLen := by simp only [maxLen]; omega
    go_enter Try.func23, Try.ntmps23
    go_wp2_with (first | (go_at_call 24; refine hcount.out.mono ?_; rintro e w' ⟨rfl, rfl⟩) | (refine wpList_make_full _ rfl (.tmp 17) (.tmp 17) 22 rfl w.heap.size 3 i0 (.int .i64 0) 1 Try.underlying22 hi hz0 hz1 .i64 .i64 _ _ zs.length rfl rfl rfl rfl hb2 hb3 (Nat.le_refl _) ?_; intro w1 hown hgrow))
    rw [made_zeros] at hown
    go_loopw [7] (fun i wr => w.grownBy wr none ∧ ∃ k : Nat, k ≤ zs.length ∧ i = .int .i64 k ∧
      wr.ownsRow w.heap.size 3 1 (.slice (some ⟨w.heap.size, 0, none⟩) zs.length zs.length) zs.length ((foreFill zs.length k (strd zs)).map (Value.int .i64))) (fun i _ => zs.length - (intOf i).toNat)
    case atStart => exact ⟨hgrow, 0, Nat.zero_le _, rfl, by simpa [foreFill] using hown⟩
    case round =>
      clear hown hgrow
      obtain ⟨hw, k, hk, rfl, hown⟩ := hrel
      by_cases hkl : k < zs.length
      · obtain ⟨b, off, rfl⟩ := addr_of h0.out (by omega)
        have hb := block_lt h0.out (by omega)
        have hd := HF.out.drop (k + 1)
        have hst : prod (zs.drop (k + 1)) = (strd zs).getD k 0 := (strd_at zs k hkl).symm
        have hcn := hd.cnt
        have hok := hd.ok
        obtain ⟨p, hpd⟩ : ∃ p, p = cnt (zs.drop (k + 1)) := ⟨_, rfl⟩
        obtain ⟨⟨c, hc⟩, hf, hown2, hw2⟩ := fore_step (z := p) hkl (strd_length zs) (by rw [hpd, hcn, hst]) hw hown
        have HO := hide hown2
        have HW := hide hw2
        have HI := hide (h0.out.more hw)
        have HC : Hid (∀ (c' o' : Nat), zs.length - (k + 1) ≤ c' → c' ≤ 9223372036854775807 → (0 < zs.length - (k + 1) → o' = off + (k + 1)) → Calls Try.prog 24 #[.slice (some ⟨b, o', none⟩) (zs.length - (k + 1)) c'] wr fun e w' => e = .returned (.tuple #[.int .i64 p, .int .i64 0]) ∧ wr = w') := by
          intro c' o' hc1 hc2 ho'
          have := refcount_any _ _ _ (sub_ints HI.out (k + 1) (zs.length - (k + 1)) (o' := o') (n' := zs.length - (k + 1)) (c' := c') (by omega) rfl hc1 hc2 ho')
          rw [drop_all (by omega), hok, ← hpd] at this
          exact this
        clear hown hown2 hw2 hw hd hst hcn hok hpd
        go_wp2_with fail
        all_goals
          try subst_vars
          refine (HC.out _ _ (by omega) (by omega) (by omega)).mono ?_
          rintro e w' ⟨rfl, rfl⟩
          go_wp2
          go_roundw
          case rel => exact ⟨HW.out, k + 1, by omega, by go_num, HO.out⟩
          case measure => simp [intOf]; omega
      · have HO := hide hown
        clear hown
        go_wp2
        go_ret2
        refine ⟨_, rfl, ⟨?_, ?_, ?_⟩, hw⟩
        · have := HO.out
          rw [show foreFill zs.length k (strd zs) = strd zs by simp [foreFill, show zs.length - k = 0 by omega, List.take_of_length_le (show (strd zs).length ≤ k by rw [strd_length]; omega)]] at this
          rw [strd_length]
          exact this
        · rw [strd_length]; omega
        · intro s hs
          have := strd_le HF.out s hs
          omega
  all_goals
    have HE := hide hE
    rw [hE] at hcount
    rw [show strdE zs = [] by simp [strdE, hE], hE]
    clear hE
    go_enter Try.func23, Try.ntmps23
    go_wp2_with (go_at_call 24; refine hcount.out.mono ?_; rintro e w' ⟨rfl, rfl⟩)
    go_ret2
    exact ⟨_, rfl, owns_nil _ _, grown_refl _⟩
end Go.Proofs.Ytankpkbneojgdaa
