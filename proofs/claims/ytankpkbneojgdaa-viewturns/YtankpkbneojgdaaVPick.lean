/- Orders of dimensions, and what they pick, by the walk. -/
import Derived.Test.YtankpkbneojgdaaVRow
import Derived.Test.YtankpkbneojgdaaSRStr
namespace Go.Proofs.Ytankpkbneojgdaa
open Go.RowKit

/-- The numbers below n, each once. -/
structure IsPerm (perm : List Int) (n : Nat) : Prop where
  len : perm.length = n
  rng : ∀ p ∈ perm, 0 ≤ p ∧ p < n
  once : perm.Nodup

def pickL (l perm : List Int) : List Int := perm.map (fun p => l.getD p.toNat 0)

set_option maxHeartbeats 800000 in
theorem pick_any (v u : Value) (l perm : List Int) (w : World) (h : IsInts w v l) (hu : IsInts w u perm) (hr : ∀ p ∈ perm, 0 ≤ p ∧ p < l.length) (hl6 : perm.length ≤ 6) :
    Calls Try.prog 17 #[v, u] w fun e w' => ∃ r, e = .returned r ∧ Owns w' w.heap.size r (pickL l perm) ∧ w.grownBy w' none := by
  obtain ⟨i0, hi, hz0, hz1, hz2⟩ := info_parts infoInt
  have h0 := hide h
  have hu0 := hide hu
  have HR := hide hr
  have hpl : (pickL l perm).length = perm.length := by simp [pickL]
  have HPL := hide hpl
  obtain ⟨ao, cap, rfl, h1, h2, h3, -, -, -⟩ := h
  obtain ⟨bo, bcap, rfl, hb1, hb2, hb3, -, -, -⟩ := hu
  have hb4 : i0.bytes * perm.length ≤ 281474976710656 := by rw [hz2]; omega
  have hb5 : perm.length ≤ maxLen := by simp only [maxLen]; omega
  clear hr hpl
  go_enter Try.func17, Try.ntmps17
  go_wp2_with (refine wpList_make_full _ rfl (.tmp 9) (.tmp 9) 22 rfl w.heap.size 3 i0 (.int .i64 0) 1 Try.underlying22 hi hz0 hz1 .i64 .i64 _ _ perm.length rfl rfl rfl rfl hb4 hb5 (Nat.le_refl _) ?_; intro w1 hown hgrow)
  rw [made_zeros] at hown
  go_loopw [13] (fun i wr => w.grownBy wr none ∧ ∃ k : Nat, k ≤ perm.length ∧ i = .int .i64 k ∧
    wr.ownsRow w.heap.size 3 1 (.slice (some ⟨w.heap.size, 0, none⟩) perm.length perm.length) perm.length ((foreFill perm.length k (pickL l perm)).map (Value.int .i64))) (fun i _ => perm.length - (intOf i).toNat)
  case atStart => exact ⟨hgrow, 0, Nat.zero_le _, rfl, by simpa [foreFill] using hown⟩
  case round =>
    clear hown hgrow
    obtain ⟨hw, k, hk, rfl, hown⟩ := hrel
    by_cases hkl : k < perm.length
    · obtain ⟨b', o', rfl⟩ := addr_of hu0.out (by omega)
      have hcp := item_at (hu0.out.more hw) hkl
      have hrg := HR.out (perm.getD k 0) (by rw [List.getD, List.getElem?_eq_getElem hkl]; simp)
      obtain ⟨pn, hpn⟩ : ∃ pn : Nat, perm.getD k 0 = pn := ⟨(perm.getD k 0).toNat, by omega⟩
      have hpn2 : pn < l.length := by omega
      rw [hpn] at hcp
      obtain ⟨b, o, rfl⟩ := addr_of h0.out (by omega)
      have hcl := item_at (h0.out.more hw) hpn2
      have hz : l.getD pn 0 = (pickL l perm).getD k 0 := by
        have e : perm[k]'hkl = (pn : Int) := by rw [← hpn]; simp [List.getD, hkl]
        simp [pickL, List.getD, hkl, e]
      obtain ⟨z, hzz⟩ : ∃ z, z = l.getD pn 0 := ⟨_, rfl⟩
      rw [← hzz] at hcl hz
      obtain ⟨⟨c, hc⟩, hf, hown2, hw2⟩ := fore_step (z := z) hkl HPL.out hz hw hown
      have HO := hide hown2
      have HW := hide hw2
      clear hown hown2 hw2 hw hz hzz hpn hrg
      go_wp2
      go_roundw
      case rel => exact ⟨HW.out, k + 1, by omega, by go_num, HO.out⟩
      case measure => simp [intOf]; omega
    · have HO := hide hown
      clear hown
      go_wp2
      go_ret
      refine ⟨_, rfl, ⟨?_, ?_, ?_⟩, hw⟩
      · have := HO.out
        rw [show foreFill perm.length k (pickL l perm) = pickL l perm by simp [foreFill, show perm.length - k = 0 by omega, List.take_of_length_le (show (pickL l perm).length ≤ k by rw [HPL.out]; omega)]] at this
        rw [HPL.out]
        exact this
      · rw [HPL.out]; omega
      · intro s hs
        obtain ⟨p, hp, rfl⟩ := List.mem_map.1 hs
        have := HR.out p hp
        exact h0.out.wf _ (by rw [List.getD, List.getElem?_eq_getElem (by omega)]; simp)

/-- It is told whether these are the numbers below n, each once. -/
def Told (perm : List Int) (n : Nat) (w : World) (e : Ending) (w' : World) : Prop := ∃ b, e = .returned (.bool b) ∧ (b = true ↔ IsPerm perm n) ∧ w.grownBy w' none

/-- The six marks: which numbers have been met among the first k. -/
structure Met (m : Array Value) (perm : List Int) (k : Nat) : Prop where
  size : m.size = 6
  mark : ∀ j : Nat, j < 6 → m[j]? = some (.bool (decide ((j : Int) ∈ perm.take k)))

theorem met_none (perm : List Int) : Met #[.bool false, .bool false, .bool false, .bool false, .bool false, .bool false] perm 0 := by
  refine ⟨rfl, fun j hj => ?_⟩
  simp only [List.take_zero, List.not_mem_nil, decide_false]
  match j, hj with
  | 0, _ => rfl
  | 1, _ => rfl
  | 2, _ => rfl
  | 3, _ => rfl
  | 4, _ => rfl
  | 5, _ => rfl

theorem Met.cell {m : Array Value} {perm : List Int} {k B : Nat} {e : TypeId} {w : World} (h : Met m perm k) (hb : w.heap[B]? = some (.cells m e (0, 0))) (j : Nat) (hj : j < 6) : w.cell? ⟨B, j, none⟩ = some (.bool (decide ((j : Int) ∈ perm.take k))) :=
  (cell_of_row w B j m e (0, 0) hb).trans (h.mark j hj)

theorem Met.put {m : Array Value} {perm : List Int} {k p : Nat} (h : Met m perm k) (hs : perm.take (k + 1) = perm.take k ++ [(p : Int)]) (_hp : p < 6) : Met (m.setIfInBounds p (.bool true)) perm (k + 1) := by
  refine ⟨by simpa using h.size, fun j hj => ?_⟩
  rw [hs, Array.getElem?_setIfInBounds]
  by_cases e : p = j
  · subst e
    simp [h.size, hj]
  · rw [if_neg e, h.mark j hj]
    have : ¬ (j : Int) = (p : Int) := by omega
    simp [this]

set_option maxHeartbeats 800000 in
theorem order_any (v : Value) (perm : List Int) (n : Nat) (w : World) (h : IsInts w v perm) (hn : n ≤ 6) :
    Calls Try.prog 16 #[v, .int .i64 n] w (Told perm n w) := by
  have h0 := hide h
  obtain ⟨ao, cap, rfl, h1, h2, h3, -, -, -⟩ := h
  by_cases hl : perm.length = n
  · have hl' : ((perm.length : Int) != (n : Int)) = false := by simp [hl]
    have HL := hide hl
    have hl6 : perm.length ≤ 6 := by omega
    have hl7 : n ≤ perm.length := by omega
    have hl8 : perm.length ≤ n := by omega
    clear hl
    go_enter Try.func16, Try.ntmps16
    go_wp2
    go_loopw [14] (fun i wr => w.grownBy wr none ∧ ∃ (k : Nat) (m : Array Value), k ≤ perm.length ∧ i = .int .i64 k ∧ wr.heap[w.heap.size]? = some (.cells m 48 (0, 0)) ∧ Met m perm k ∧ (∀ p ∈ perm.take k, 0 ≤ p ∧ p < n) ∧ (perm.take k).Nodup) (fun i _ => perm.length - (intOf i).toNat)
    case atStart => exact ⟨grown_new _ _, 0, _, Nat.zero_le _, rfl, heap_alloc_new w _, met_none perm, fun p hp => by simp at hp, by simp⟩
    case round =>
      obtain ⟨hw, k, m, hk, rfl, hblk, hmet, hrng, hnd⟩ := hrel
      have HB := hide hblk
      have HM := hide hmet
      have HR := hide hrng
      have HN := hide hnd
      clear hblk hmet hrng hnd
      by_cases hkl : k < perm.length
      · obtain ⟨b, o, rfl⟩ := addr_of h0.out (by omega)
        have hcp := item_at (h0.out.more hw) hkl
        have hst := take_step perm k hkl
        have hmem : perm.getD k 0 ∈ perm := by rw [List.getD, List.getElem?_eq_getElem hkl]; simp
        obtain ⟨p, hp⟩ : ∃ p, p = perm.getD k 0 := ⟨_, rfl⟩
        rw [← hp] at hcp hst hmem
        have HST := hide hst
        have HME := hide hmem
        clear hp hst hmem
        by_cases hp0 : p < 0
        · have HF : Hid (¬ IsPerm perm n) := fun hP => by have := hP.rng p HME.out; omega
          go_wp2
          go_ret
          exact ⟨false, rfl, ⟨fun h => (by cases h), fun h => absurd h HF.out⟩, hw⟩
        · by_cases hp1 : (n : Int) ≤ p
          · have HF : Hid (¬ IsPerm perm n) := fun hP => by have := hP.rng p HME.out; omega
            go_wp2
            go_ret
            exact ⟨false, rfl, ⟨fun h => (by cases h), fun h => absurd h HF.out⟩, hw⟩
          · obtain ⟨pn, rfl⟩ : ∃ pn : Nat, p = pn := ⟨p.toNat, by omega⟩
            have hpn : pn < n := by omega
            have hcell := HM.out.cell HB.out pn (by omega)
            have hfr := frozen_of_row wr w.heap.size pn m _ HB.out
            by_cases hin : (pn : Int) ∈ perm.take k
            · have hd : decide ((pn : Int) ∈ perm.take k) = true := decide_eq_true hin
              rw [hd] at hcell
              have HF : Hid (¬ IsPerm perm n) := fun hP => by
                have h1 := hP.once.sublist (List.take_sublist (k + 1) perm)
                rw [HST.out, List.nodup_append] at h1
                exact absurd rfl (h1.2.2 _ hin _ (by simp))
              clear hd hin
              go_wp2
              go_ret
              exact ⟨false, rfl, ⟨fun h => (by cases h), fun h => absurd h HF.out⟩, hw⟩
            · have hd : decide ((pn : Int) ∈ perm.take k) = false := decide_eq_false hin
              rw [hd] at hcell
              have HI := hide hin
              have hgs : wr.grownBy (wr.setCell ⟨w.heap.size, pn, none⟩ (.bool true)) (some w.heap.size) := ⟨rfl, rfl, rfl, by simp [World.setCell], fun j _ hj => Below.heap_setCell _ _ _ _ (fun e => hj (by rw [e]))⟩
              have HG := hide (grown_trans_row hw hgs (fun r e => by cases e; exact Nat.le_refl _))
              clear hd hin hgs
              go_wp2
              go_roundw
              case rel =>
                refine ⟨HG.out, k + 1, _, by omega, by go_num, heap_setCell_same wr w.heap.size pn m _ (.bool true) HB.out, HM.out.put HST.out (by omega), ?_, ?_⟩
                · rw [HST.out]
                  intro q hq
                  rcases List.mem_append.1 hq with h | h
                  · exact HR.out q h
                  · simp only [List.mem_singleton] at h
                    omega
                · rw [HST.out, List.nodup_append]
                  exact ⟨HN.out, by simp, fun a ha b hb e => HI.out (by simp only [List.mem_singleton] at hb; rw [← hb, ← e]; exact ha)⟩
              case measure => simp [intOf]; omega
      · have HP : Hid (IsPerm perm n) := by
          have h1 := HR.out
          have h2 := HN.out
          rw [List.take_of_length_le (by omega)] at h1 h2
          exact ⟨HL.out, h1, h2⟩
        go_wp2
        go_ret
        exact ⟨true, rfl, ⟨fun _ => HP.out, fun _ => rfl⟩, hw⟩
  · have hl' : ((perm.length : Int) != (n : Int)) = true := by simp; omega
    have HL := hide hl
    clear hl
    go_enter Try.func16, Try.ntmps16
    go_wp2
    go_ret
    exact ⟨false, rfl, ⟨fun h => (by cases h), fun h => absurd h.len HL.out⟩, grown_refl _⟩
end Go.Proofs.Ytankpkbneojgdaa
