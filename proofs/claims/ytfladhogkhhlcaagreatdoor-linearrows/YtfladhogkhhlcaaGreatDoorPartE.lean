/- Joined texts: SStr, SBc, ILists, SRStr, SCrd. -/
import Derived.Test.YtfladhogkhhlcaaGreatDoorPartD
/- Strides, by the walk. -/
namespace Go.Proofs.YtfladhogkhhlcaaGreatDoor
open Go.RowKit

/-- A list of which the last k are filled. -/
def backFill (n k : Nat) (l : List Int) : List Int := List.replicate (n - k) 0 ++ l

theorem backFill_step {n k : Nat} (hk : k < n) (l : List Int) (z : Int) : (backFill n k l).set (n - 1 - k) z = backFill n (k + 1) (z :: l) := by
  unfold backFill
  have e : List.replicate (n - k) (0 : Int) = List.replicate (n - (k + 1)) 0 ++ [0] := by
    rw [show n - k = (n - (k + 1)) + 1 by omega, List.replicate_succ']
  rw [e, show n - 1 - k = n - (k + 1) by omega, List.append_assoc, List.set_append_right _ _ (by simp)]
  simp

theorem strd_back {zs : List Int} {k : Nat} (hk : k < zs.length) : strd (zs.drop (zs.length - (k + 1))) = prod (zs.drop (zs.length - k)) :: strd (zs.drop (zs.length - k)) := by
  rw [drop_step zs (zs.length - (k + 1)) (by omega), show zs.length - (k + 1) + 1 = zs.length - k by omega]
  rfl

theorem back_mul {zs : List Int} {k : Nat} (hk : k < zs.length) : prod (zs.drop (zs.length - (k + 1))) = prod (zs.drop (zs.length - k)) * zs.getD (zs.length - 1 - k) 0 := by
  rw [back_step hk, bh_in hk]

theorem map_set_int (l : List Int) (i : Nat) (z : Int) : (l.map (Value.int .i64)).set i (.int .i64 z) = (l.set i z).map (Value.int .i64) := by
  rw [List.map_set]

theorem made_zeros (n : Nat) : (madeCells (Value.int .i64 0).cells (n * 1)).toList = (List.replicate n (0 : Int)).map (Value.int .i64) := by
  rw [Nat.mul_one, show (Value.int .i64 0).cells = #[Value.int .i64 0] from rfl, toList_madeCells_one]
  simp

theorem strd_le {zs : List Int} (h : Fine zs) : ∀ s ∈ strd zs, 1 ≤ s ∧ s ≤ 65536 := by
  induction zs with
  | nil => intro s hs; simp [strd] at hs
  | cons z zs ih =>
    intro s hs
    have hd : Fine zs := by have := h.drop 1; simpa using this
    rcases List.mem_cons.1 hs with rfl | hs
    · exact ⟨hd.prod_pos, hd.le⟩
    · exact ih hd s hs

theorem ret_err' {zs : List Int} {e : Int} (h : cntE zs = e) : Ending.returned (.tuple #[.slice none 0 0, .int .i64 e]) = Ending.returned (.tuple #[.slice none 0 0, .int .i64 (cntE zs)]) := by rw [h]

/-- A row of the call's own that is filled from the back, at one more place. -/
theorem fill_step {w wr : World} {n k : Nat} {l : List Int} {z : Int} (hk : k < n) (hw : w.grownBy wr none)
    (hown : wr.ownsRow w.heap.size 3 1 (.slice (some ⟨w.heap.size, 0, none⟩) n n) n ((backFill n k l).map (Value.int .i64))) :
    (∃ c, wr.cell? ⟨w.heap.size, n - 1 - k, none⟩ = some c) ∧ wr.frozen? ⟨w.heap.size, n - 1 - k, none⟩ = false ∧
    (wr.setCell ⟨w.heap.size, n - 1 - k, none⟩ (.int .i64 z)).ownsRow w.heap.size 3 1 (.slice (some ⟨w.heap.size, 0, none⟩) n n) n ((backFill n (k + 1) (z :: l)).map (Value.int .i64)) ∧
    w.grownBy (wr.setCell ⟨w.heap.size, n - 1 - k, none⟩ (.int .i64 z)) none := by
  have hl := hown.1
  refine ⟨⟨_, by rw [hown.cellAt (n - 1 - k) (by omega), List.getElem?_eq_getElem (by omega)]⟩, hown.frozenAt _, ?_, grown_trans_row hw (hown.stored (n - 1 - k) (.int .i64 z)).2 (fun g hg => by injection hg with hg; omega)⟩
  have := (hown.stored (n - 1 - k) (.int .i64 z)).1
  rw [map_set_int, backFill_step hk] at this
  exact this

/-- An item of a list that came in, in a later world. -/
theorem item_at {w : World} {b off cap len : Nat} {zs : List Int} (h : IsInts w (.slice (some ⟨b, off, none⟩) len cap) zs) {k : Nat} (hk : k < zs.length) :
    w.cell? ⟨b, off + k, none⟩ = some (.int .i64 (zs.getD k 0)) := by
  obtain ⟨_, _, he, -, -, -, -, h5, -⟩ := h
  obtain ⟨b', off', ho, hc⟩ := h5 (by omega)
  simp only [Value.slice.injEq] at he
  rw [ho] at he
  simp only [Option.some.injEq, Addr.mk.injEq] at he
  obtain ⟨⟨rfl, rfl, -⟩, -⟩ := he
  exact hc k hk

theorem addr_of {w : World} {ao : Option Addr} {cap len : Nat} {zs : List Int} (h : IsInts w (.slice ao len cap) zs) (hk : 0 < zs.length) : ∃ b off, ao = some ⟨b, off, none⟩ := by
  obtain ⟨_, _, he, -, -, -, -, h5, -⟩ := h
  obtain ⟨b', off', ho, -⟩ := h5 hk
  simp only [Value.slice.injEq] at he
  exact ⟨b', off', by rw [he.1, ho]⟩

theorem block_lt {w : World} {b off cap len : Nat} {zs : List Int} (h : IsInts w (.slice (some ⟨b, off, none⟩) len cap) zs) (hk : 0 < zs.length) : b < w.heap.size :=
  World.block_lt_of_cell? w _ (item_at h hk)

/-- What Strides answers: with an error nothing. -/
def strdE (zs : List Int) : List Int := if cntE zs = 0 then strd zs else []

set_option maxHeartbeats 400000 in
theorem strides_any (v : Value) (zs : List Int) (w : World) (h : IsInts w v zs) :
    Calls Tryz.prog 79 #[v] w fun e w' => ∃ u, e = .returned (.tuple #[u, .int .i64 (cntE zs)]) ∧ Owns w' w.heap.size u (strdE zs) ∧ w.grownBy w' none := by
  obtain ⟨i0, hi, hz0, hz1, hz2⟩ := info_parts infoInt
  have hcount := hide (count_any v zs w h)
  have h0 := hide h
  obtain ⟨ao, cap, rfl, h1, h2, h3, -, -, -⟩ := h
  rcases cntE_cases zs with hE | hE | hE
  · have HF := hide (fine_of hE)
    have HE := hide hE
    rw [hE] at hcount
    rw [show strdE zs = strd zs by simp [strdE, hE], hE]
    clear hE
    have hb2 : i0.bytes * zs.length ≤ 281474976710656 := by rw [hz2]; omega
    have hb3 : zs.length ≤ maxLen := by simp only [maxLen]; omega
    go_enter Tryz.func79, Tryz.ntmps79
    go_wp2_with (first | (go_at_call 49; refine hcount.out.mono ?_; rintro e w' ⟨rfl, rfl⟩) | (refine wpList_make_full _ rfl (.tmp 19) (.tmp 19) 22 rfl w.heap.size 3 i0 (.int .i64 0) 1 Tryz.underlying22 hi hz0 hz1 .i64 .i64 _ _ zs.length rfl rfl rfl rfl hb2 hb3 (Nat.le_refl _) ?_; intro w1 hown hgrow))
    rw [made_zeros] at hown
    go_loopw [7, 23] (fun n i wr => w.grownBy wr none ∧ ∃ k : Nat, k ≤ zs.length ∧ i = .int .i64 k ∧ n = .int .i64 (prod (zs.drop (zs.length - k))) ∧
      wr.ownsRow w.heap.size 3 1 (.slice (some ⟨w.heap.size, 0, none⟩) zs.length zs.length) zs.length ((backFill zs.length k (strd (zs.drop (zs.length - k)))).map (Value.int .i64))) (fun _ i _ => zs.length - (intOf i).toNat)
    case atStart => exact ⟨hgrow, 0, Nat.zero_le _, rfl, by simp [prod], by simpa [backFill, strd] using hown⟩
    case round =>
      clear hown hgrow
      obtain ⟨hw, k, hk, rfl, hn, hown⟩ := hrel
      have hd := HF.out.drop (zs.length - k)
      have hp1 := hd.prod_pos
      have hp2 := hd.le
      obtain ⟨p, hpd⟩ : ∃ p, p = prod (zs.drop (zs.length - k)) := ⟨_, rfl⟩
      rw [← hpd] at hn hp1 hp2
      subst hn
      have HPD := hide hpd
      clear hpd hd
      by_cases hkl : k < zs.length
      · obtain ⟨b, off, rfl⟩ := addr_of h0.out (by omega)
        have hb := block_lt h0.out (by omega)
        have hcell := item_at (h0.out.more hw) (k := zs.length - 1 - k) (by omega)
        obtain ⟨⟨c, hc⟩, hf, hown2, hw2⟩ := fill_step (z := p) hkl hw hown
        have hmul := back_mul hkl
        rw [← HPD.out] at hmul
        have hdl := (HF.out.drop (zs.length - (k + 1))).le
        rw [hmul] at hdl
        have hd1 := HF.out.at (zs.length - 1 - k) (by omega)
        obtain ⟨d, hd⟩ : ∃ d, d = zs.getD (zs.length - 1 - k) 0 := ⟨_, rfl⟩
        rw [← hd] at hcell hmul hdl hd1
        have hpd0 : 0 ≤ p * d := Int.mul_nonneg (by omega) (by omega)
        have HM := hide hmul
        have HO := hide hown2
        have HW := hide hw2
        clear hd hmul hown hown2 hw2 hw
        go_wp2
        go_roundw
        case rel =>
          refine ⟨HW.out, k + 1, by omega, by go_num, by rw [HM.out], ?_⟩
          rw [strd_back hkl, ← HPD.out]
          exact HO.out
        case measure => simp [intOf]; omega
      · have HO := hide hown
        clear hown
        go_wp2
        go_ret2
        refine ⟨_, rfl, ⟨?_, ?_, ?_⟩, hw⟩
        · have := HO.out
          rw [show zs.length - k = 0 by omega, show backFill zs.length k (strd (zs.drop 0)) = strd zs by simp [backFill, show zs.length - k = 0 by omega]] at this
          rw [strd_length]
          exact this
        · rw [strd_length]; omega
        · intro s hs
          have := strd_le HF.out s hs
          omega
  all_goals
    have HE := hide hE
    rw [hE] at hcount
    rw [show strdE zs = [] by simp [strdE, hE], hE]
    clear hE
    go_enter Tryz.func79, Tryz.ntmps79
    go_wp2_with (go_at_call 49; refine hcount.out.mono ?_; rintro e w' ⟨rfl, rfl⟩)
    go_ret2
    exact ⟨_, rfl, owns_nil _ _, grown_refl _⟩
end Go.Proofs.YtfladhogkhhlcaaGreatDoor

/- Broadcast, by the walk: of the code, and the document's. -/
namespace Go.Proofs.YtfladhogkhhlcaaGreatDoor
open Go.RowKit

/-- Two dimensions that can't be spread to one another. -/
def apartAt (p q : Int) : Bool := !(p == q) && (!(p == 1) && !(q == 1))
/-- The greater ones, of the last k places. -/
def bcL (a b : List Int) : Nat → List Int
  | 0 => []
  | k + 1 => max (bh a k) (bh b k) :: bcL a b k
def bcBad (a b : List Int) : Nat → Bool
  | 0 => false
  | k + 1 => apartAt (bh a k) (bh b k) || bcBad a b k
def rank (a b : List Int) : Nat := max a.length b.length
def bcE (a b : List Int) : Int := if cntE a ≠ 0 then cntE a else if cntE b ≠ 0 then cntE b else if bcBad a b (rank a b) = true then 4 else cntE (bcL a b (rank a b))
def bcR (a b : List Int) : List Int := if bcE a b = 0 then bcL a b (rank a b) else []

theorem bcL_length (a b : List Int) (k : Nat) : (bcL a b k).length = k := by
  induction k with
  | zero => rfl
  | succ k ih => simp [bcL, ih]

theorem bcBad_of {a b : List Int} {k n : Nat} (hk : k < n) (h : apartAt (bh a k) (bh b k) = true) : bcBad a b n = true := by
  induction n with
  | zero => omega
  | succ n ih =>
    rcases lt_succ_cases hk with h1 | rfl
    · simp [bcBad, ih h1]
    · simp [bcBad, h]

theorem bh_wf {zs : List Int} (h : ∀ z ∈ zs, -9223372036854775808 ≤ z ∧ z ≤ 9223372036854775807) (i : Nat) : -9223372036854775808 ≤ bh zs i ∧ bh zs i ≤ 9223372036854775807 := by
  unfold bh
  split
  · omega
  · exact h _ (by rw [List.getD, List.getElem?_eq_getElem (by omega)]; simp)

theorem bcL_wf {a b : List Int} (ha : ∀ z ∈ a, -9223372036854775808 ≤ z ∧ z ≤ 9223372036854775807) (hb : ∀ z ∈ b, -9223372036854775808 ≤ z ∧ z ≤ 9223372036854775807) (k : Nat) : ∀ z ∈ bcL a b k, -9223372036854775808 ≤ z ∧ z ≤ 9223372036854775807 := by
  induction k with
  | zero => intro z hz; simp [bcL] at hz
  | succ k ih =>
    intro z hz
    rcases List.mem_cons.1 hz with rfl | hz
    · have h1 := bh_wf ha k
      have h2 := bh_wf hb k
      omega
    · exact ih z hz

theorem apart_cases (p q : Int) (h : apartAt p q = true) : (p == q) = false ∧ (p == 1) = false ∧ (q == 1) = false := by
  simp only [apartAt, Bool.and_eq_true, Bool.not_eq_true'] at h
  exact h

theorem ret_bc {E : Int} {a b : List Int} {w w' : World} (h : bcE a b = E) (h0 : E ≠ 0) (hg : w.grownBy w' none) :
    ∃ u, Ending.returned (.tuple #[.slice none 0 0, .int .i64 E]) = .returned (.tuple #[u, .int .i64 (bcE a b)]) ∧ Owns w' w.heap.size u (bcR a b) ∧ w.grownBy w' none :=
  ⟨_, by rw [h], by rw [show bcR a b = [] by simp [bcR, h, h0]]; exact owns_nil _ _, hg⟩

theorem cntE_neq {zs : List Int} (h : cntE zs ≠ 0) : (cntE zs == 0) = false := by simpa using h

set_option maxRecDepth 100000 in
set_option maxHeartbeats 1600000 in
theorem bc_any (v u : Value) (a b : List Int) (w : World) (h : IsInts w v a) (hu : IsInts w u b) :
    Calls Tryz.prog 52 #[v, u] w fun e w' => ∃ r, e = .returned (.tuple #[r, .int .i64 (bcE a b)]) ∧ Owns w' w.heap.size r (bcR a b) ∧ w.grownBy w' none := by
  obtain ⟨i0, hi, hz0, hz1, hz2⟩ := info_parts infoInt
  have hca := hide (count_any v a w h)
  have hcb := hide (count_any u b w hu)
  have h0 := hide h
  have hu0 := hide hu
  obtain ⟨ao, cap, rfl, h1, h2, h3, -, -, -⟩ := h
  obtain ⟨bo, bcap, rfl, hb1, hb2, hb3, -, -, -⟩ := hu
  by_cases hE : cntE a = 0
  · by_cases hF : cntE b = 0
    · have HA := hide (fine_of hE)
      have HB := hide (fine_of hF)
      have HEF : Hid (bcE a b = if bcBad a b (rank a b) = true then 4 else cntE (bcL a b (rank a b))) := by simp [Hid, bcE, hE, hF]
      rw [hE] at hca
      rw [hF] at hcb
      clear hE hF
      have hl1 := HA.out.few
      have hl2 := HB.out.few
      by_cases hlt : a.length < b.length
      · skip
        have HR : Hid (b.length = rank a b) := by simp only [Hid, rank]; omega
        rw [← HR.out] at HEF
        have hb4 : i0.bytes * b.length ≤ 281474976710656 := by rw [hz2]; omega
        have hb5 : b.length ≤ maxLen := by simp only [maxLen]; omega
        go_enter Tryz.func52, Tryz.ntmps52
        go_wp2_with fail
        refine hca.out.mono ?_
        rintro e w' ⟨rfl, rfl⟩
        go_wp2_with fail
        refine hcb.out.mono ?_
        rintro e w' ⟨rfl, rfl⟩
        go_wp2_with (refine wpList_make_full _ rfl (.tmp 38) (.tmp 38) 22 rfl w.heap.size 3 i0 (.int .i64 0) 1 Tryz.underlying22 hi hz0 hz1 .i64 .i64 _ _ b.length rfl rfl rfl rfl hb4 hb5 (Nat.le_refl _) ?_; intro w1 hown hgrow)
        rw [made_zeros] at hown
        go_loopw [41] (fun i wr => w.grownBy wr none ∧ ∃ k : Nat, k ≤ b.length ∧ i = .int .i64 k ∧ bcBad a b k = false ∧
          wr.ownsRow w.heap.size 3 1 (.slice (some ⟨w.heap.size, 0, none⟩) b.length b.length) b.length ((backFill b.length k (bcL a b k)).map (Value.int .i64))) (fun i _ => b.length - (intOf i).toNat)
        case atStart => exact ⟨hgrow, 0, Nat.zero_le _, rfl, rfl, by simpa [backFill, bcL] using hown⟩
        case round =>
          clear hown hgrow
          obtain ⟨hw, k, hk, rfl, hbad, hown⟩ := hrel
          have HBAD := hide hbad
          clear hbad
          by_cases hkl : k < b.length
          · have hpa := behind_any _ a k _ (h0.out.more hw) (by omega)
            have hpb := behind_any _ b k _ (hu0.out.more hw) (by omega)
            have hp1 := bh_pos (k := k) HA.out.pos
            have hq1 := bh_pos (k := k) HB.out.pos
            have hbo := @bcBad_of a b k b.length hkl
            obtain ⟨p, hp⟩ : ∃ p, p = bh a k := ⟨_, rfl⟩
            obtain ⟨q, hq⟩ : ∃ q, q = bh b k := ⟨_, rfl⟩
            rw [← hp] at hpa hp1 hbo
            rw [← hq] at hpb hq1 hbo
            have HPA := hide hpa
            have HPB := hide hpb
            have HP := hide hp
            have HQ := hide hq
            have HBO := hide hbo
            clear hpa hpb hp hq hbo
            by_cases hap : apartAt p q = true
            · obtain ⟨t1, t2, t3⟩ := apart_cases p q hap
              have HE4 : Hid (bcE a b = 4) := by simp only [Hid]; rw [HEF.out, if_pos (HBO.out hap)]
              have n1 : (p != q) = true := by simp [bne, t1]
              have n2 : (p != 1) = true := by simp [bne, t2]
              have n3 : (q != 1) = true := by simp [bne, t3]
              clear hap t1 t2 t3
              go_wp2_with fail
              refine HPA.out.mono ?_
              rintro e w' ⟨rfl, rfl⟩
              go_wp2_with fail
              refine HPB.out.mono ?_
              rintro e w' ⟨rfl, rfl⟩
              go_wp2
              go_ret2
              exact ret_bc HE4.out (by decide) hw
            · have HNB : Hid (apartAt p q = false) := by simp only [Hid]; simpa using hap
              rcases (show p = q ∨ (p ≠ q ∧ p = 1) ∨ (p ≠ q ∧ p ≠ 1 ∧ q = 1) by
                simp only [apartAt, Bool.and_eq_true, Bool.not_eq_true', beq_eq_false_iff_ne, ne_eq] at hap; omega) with hc1 | ⟨hc1, hc2⟩ | ⟨hc1, hc2, hc3⟩
              · subst hc1
                obtain ⟨⟨c, hc⟩, hf, hown2, hw2⟩ := fill_step (z := p) hkl hw hown
                have HM : Hid (p = max p p) := by simp only [Hid]; omega
                have HO := hide hown2
                have HW := hide hw2
                clear hap
                clear hown hown2 hw2 hw
                go_wp2_with fail
                refine HPA.out.mono ?_
                rintro e w' ⟨rfl, rfl⟩
                go_wp2_with fail
                refine HPB.out.mono ?_
                rintro e w' ⟨rfl, rfl⟩
                go_wp2
                go_roundw
                case rel =>
                  refine ⟨HW.out, k + 1, by omega, by go_num, ?_, ?_⟩
                  · simp only [bcBad]
                    rw [← HP.out, ← HQ.out, HNB.out, HBAD.out]
                    rfl
                  · simp only [bcL]
                    rw [← HP.out, ← HQ.out, ← HM.out]
                    exact HO.out
                case measure => simp [intOf]; omega
              · subst hc2
                obtain ⟨⟨c, hc⟩, hf, hown2, hw2⟩ := fill_step (z := q) hkl hw hown
                have HM : Hid (q = max 1 q) := by simp only [Hid]; omega
                have HO := hide hown2
                have HW := hide hw2
                have n1 : 1 < q := by omega
                have n2 : ((1 : Int) != q) = true := by simp; omega
                clear hap hc1
                clear hown hown2 hw2 hw
                go_wp2_with fail
                refine HPA.out.mono ?_
                rintro e w' ⟨rfl, rfl⟩
                go_wp2_with fail
                refine HPB.out.mono ?_
                rintro e w' ⟨rfl, rfl⟩
                go_wp2
                go_roundw
                case rel =>
                  refine ⟨HW.out, k + 1, by omega, by go_num, ?_, ?_⟩
                  · simp only [bcBad]
                    rw [← HP.out, ← HQ.out, HNB.out, HBAD.out]
                    rfl
                  · simp only [bcL]
                    rw [← HP.out, ← HQ.out, ← HM.out]
                    exact HO.out
                case measure => simp [intOf]; omega
              · subst hc3
                obtain ⟨⟨c, hc⟩, hf, hown2, hw2⟩ := fill_step (z := p) hkl hw hown
                have HM : Hid (p = max p 1) := by simp only [Hid]; omega
                have HO := hide hown2
                have HW := hide hw2
                have n1 : 1 < p := by omega
                have n2 : (p != 1) = true := by simp; omega
                clear hap hc1 hc2
                clear hown hown2 hw2 hw
                go_wp2_with fail
                refine HPA.out.mono ?_
                rintro e w' ⟨rfl, rfl⟩
                go_wp2_with fail
                refine HPB.out.mono ?_
                rintro e w' ⟨rfl, rfl⟩
                go_wp2
                go_roundw
                case rel =>
                  refine ⟨HW.out, k + 1, by omega, by go_num, ?_, ?_⟩
                  · simp only [bcBad]
                    rw [← HP.out, ← HQ.out, HNB.out, HBAD.out]
                    rfl
                  · simp only [bcL]
                    rw [← HP.out, ← HQ.out, ← HM.out]
                    exact HO.out
                case measure => simp [intOf]; omega
          · have HOW : Hid (Owns wr w.heap.size (.slice (some ⟨w.heap.size, 0, none⟩) b.length b.length) (bcL a b b.length)) := by
              refine ⟨?_, by rw [bcL_length]; omega, bcL_wf h0.out.wf hu0.out.wf _⟩
              have := hown
              rw [show k = b.length by omega, show backFill b.length b.length (bcL a b b.length) = bcL a b b.length by simp [backFill]] at this
              rw [bcL_length]
              exact this
            have HB0 : Hid (bcBad a b b.length = false) := by simp only [Hid]; rw [show b.length = k by omega]; exact HBAD.out
            have hcc := count_any _ _ _ HOW.out.ints
            have hEE : bcE a b = cntE (bcL a b b.length) := by rw [HEF.out, if_neg (by rw [HB0.out]; decide)]
            by_cases hz : cntE (bcL a b b.length) = 0
            · rw [hz] at hcc hEE
              have HEE := hide hEE
              have HCC := hide hcc
              have HRR : Hid (bcR a b = bcL a b b.length) := by simp [Hid, bcR, hEE, ← HR.out]
              clear hcc hEE hz hown
              go_wp2_with fail
              refine HCC.out.mono ?_
              rintro e w' ⟨rfl, rfl⟩
              go_wp2
              go_ret2
              refine ⟨_, by rw [HEE.out]; rfl, ?_, hw⟩
              rw [HRR.out]
              exact HOW.out
            · have hz' := cntE_neq hz
              have HZ := hide hz
              have HEE := hide hEE
              have HCC := hide hcc
              obtain ⟨E, hE⟩ : ∃ E, E = cntE (bcL a b b.length) := ⟨_, rfl⟩
              rw [← hE] at hz' HZ HEE HCC
              clear hcc hEE hz hE hown
              go_wp2_with fail
              refine HCC.out.mono ?_
              rintro e w' ⟨rfl, rfl⟩
              go_wp2
              go_ret2
              exact ret_bc HEE.out HZ.out hw
      · skip
        have HR : Hid (a.length = rank a b) := by simp only [Hid, rank]; omega
        rw [← HR.out] at HEF
        have hb4 : i0.bytes * a.length ≤ 281474976710656 := by rw [hz2]; omega
        have hb5 : a.length ≤ maxLen := by simp only [maxLen]; omega
        go_enter Tryz.func52, Tryz.ntmps52
        go_wp2_with fail
        refine hca.out.mono ?_
        rintro e w' ⟨rfl, rfl⟩
        go_wp2_with fail
        refine hcb.out.mono ?_
        rintro e w' ⟨rfl, rfl⟩
        go_wp2_with (refine wpList_make_full _ rfl (.tmp 38) (.tmp 38) 22 rfl w.heap.size 3 i0 (.int .i64 0) 1 Tryz.underlying22 hi hz0 hz1 .i64 .i64 _ _ a.length rfl rfl rfl rfl hb4 hb5 (Nat.le_refl _) ?_; intro w1 hown hgrow)
        rw [made_zeros] at hown
        go_loopw [41] (fun i wr => w.grownBy wr none ∧ ∃ k : Nat, k ≤ a.length ∧ i = .int .i64 k ∧ bcBad a b k = false ∧
          wr.ownsRow w.heap.size 3 1 (.slice (some ⟨w.heap.size, 0, none⟩) a.length a.length) a.length ((backFill a.length k (bcL a b k)).map (Value.int .i64))) (fun i _ => a.length - (intOf i).toNat)
        case atStart => exact ⟨hgrow, 0, Nat.zero_le _, rfl, rfl, by simpa [backFill, bcL] using hown⟩
        case round =>
          clear hown hgrow
          obtain ⟨hw, k, hk, rfl, hbad, hown⟩ := hrel
          have HBAD := hide hbad
          clear hbad
          by_cases hkl : k < a.length
          · have hpa := behind_any _ a k _ (h0.out.more hw) (by omega)
            have hpb := behind_any _ b k _ (hu0.out.more hw) (by omega)
            have hp1 := bh_pos (k := k) HA.out.pos
            have hq1 := bh_pos (k := k) HB.out.pos
            have hbo := @bcBad_of a b k a.length hkl
            obtain ⟨p, hp⟩ : ∃ p, p = bh a k := ⟨_, rfl⟩
            obtain ⟨q, hq⟩ : ∃ q, q = bh b k := ⟨_, rfl⟩
            rw [← hp] at hpa hp1 hbo
            rw [← hq] at hpb hq1 hbo
            have HPA := hide hpa
            have HPB := hide hpb
            have HP := hide hp
            have HQ := hide hq
            have HBO := hide hbo
            clear hpa hpb hp hq hbo
            by_cases hap : apartAt p q = true
            · obtain ⟨t1, t2, t3⟩ := apart_cases p q hap
              have HE4 : Hid (bcE a b = 4) := by simp only [Hid]; rw [HEF.out, if_pos (HBO.out hap)]
              have n1 : (p != q) = true := by simp [bne, t1]
              have n2 : (p != 1) = true := by simp [bne, t2]
              have n3 : (q != 1) = true := by simp [bne, t3]
              clear hap t1 t2 t3
              go_wp2_with fail
              refine HPA.out.mono ?_
              rintro e w' ⟨rfl, rfl⟩
              go_wp2_with fail
              refine HPB.out.mono ?_
              rintro e w' ⟨rfl, rfl⟩
              go_wp2
              go_ret2
              exact ret_bc HE4.out (by decide) hw
            · have HNB : Hid (apartAt p q = false) := by simp only [Hid]; simpa using hap
              rcases (show p = q ∨ (p ≠ q ∧ p = 1) ∨ (p ≠ q ∧ p ≠ 1 ∧ q = 1) by
                simp only [apartAt, Bool.and_eq_true, Bool.not_eq_true', beq_eq_false_iff_ne, ne_eq] at hap; omega) with hc1 | ⟨hc1, hc2⟩ | ⟨hc1, hc2, hc3⟩
              · subst hc1
                obtain ⟨⟨c, hc⟩, hf, hown2, hw2⟩ := fill_step (z := p) hkl hw hown
                have HM : Hid (p = max p p) := by simp only [Hid]; omega
                have HO := hide hown2
                have HW := hide hw2
                clear hap
                clear hown hown2 hw2 hw
                go_wp2_with fail
                refine HPA.out.mono ?_
                rintro e w' ⟨rfl, rfl⟩
                go_wp2_with fail
                refine HPB.out.mono ?_
                rintro e w' ⟨rfl, rfl⟩
                go_wp2
                go_roundw
                case rel =>
                  refine ⟨HW.out, k + 1, by omega, by go_num, ?_, ?_⟩
                  · simp only [bcBad]
                    rw [← HP.out, ← HQ.out, HNB.out, HBAD.out]
                    rfl
                  · simp only [bcL]
                    rw [← HP.out, ← HQ.out, ← HM.out]
                    exact HO.out
                case measure => simp [intOf]; omega
              · subst hc2
                obtain ⟨⟨c, hc⟩, hf, hown2, hw2⟩ := fill_step (z := q) hkl hw hown
                have HM : Hid (q = max 1 q) := by simp only [Hid]; omega
                have HO := hide hown2
                have HW := hide hw2
                have n1 : 1 < q := by omega
                have n2 : ((1 : Int) != q) = true := by simp; omega
                clear hap hc1
                clear hown hown2 hw2 hw
                go_wp2_with fail
                refine HPA.out.mono ?_
                rintro e w' ⟨rfl, rfl⟩
                go_wp2_with fail
                refine HPB.out.mono ?_
                rintro e w' ⟨rfl, rfl⟩
                go_wp2
                go_roundw
                case rel =>
                  refine ⟨HW.out, k + 1, by omega, by go_num, ?_, ?_⟩
                  · simp only [bcBad]
                    rw [← HP.out, ← HQ.out, HNB.out, HBAD.out]
                    rfl
                  · simp only [bcL]
                    rw [← HP.out, ← HQ.out, ← HM.out]
                    exact HO.out
                case measure => simp [intOf]; omega
              · subst hc3
                obtain ⟨⟨c, hc⟩, hf, hown2, hw2⟩ := fill_step (z := p) hkl hw hown
                have HM : Hid (p = max p 1) := by simp only [Hid]; omega
                have HO := hide hown2
                have HW := hide hw2
                have n1 : 1 < p := by omega
                have n2 : (p != 1) = true := by simp; omega
                clear hap hc1 hc2
                clear hown hown2 hw2 hw
                go_wp2_with fail
                refine HPA.out.mono ?_
                rintro e w' ⟨rfl, rfl⟩
                go_wp2_with fail
                refine HPB.out.mono ?_
                rintro e w' ⟨rfl, rfl⟩
                go_wp2
                go_roundw
                case rel =>
                  refine ⟨HW.out, k + 1, by omega, by go_num, ?_, ?_⟩
                  · simp only [bcBad]
                    rw [← HP.out, ← HQ.out, HNB.out, HBAD.out]
                    rfl
                  · simp only [bcL]
                    rw [← HP.out, ← HQ.out, ← HM.out]
                    exact HO.out
                case measure => simp [intOf]; omega
          · have HOW : Hid (Owns wr w.heap.size (.slice (some ⟨w.heap.size, 0, none⟩) a.length a.length) (bcL a b a.length)) := by
              refine ⟨?_, by rw [bcL_length]; omega, bcL_wf h0.out.wf hu0.out.wf _⟩
              have := hown
              rw [show k = a.length by omega, show backFill a.length a.length (bcL a b a.length) = bcL a b a.length by simp [backFill]] at this
              rw [bcL_length]
              exact this
            have HB0 : Hid (bcBad a b a.length = false) := by simp only [Hid]; rw [show a.length = k by omega]; exact HBAD.out
            have hcc := count_any _ _ _ HOW.out.ints
            have hEE : bcE a b = cntE (bcL a b a.length) := by rw [HEF.out, if_neg (by rw [HB0.out]; decide)]
            by_cases hz : cntE (bcL a b a.length) = 0
            · rw [hz] at hcc hEE
              have HEE := hide hEE
              have HCC := hide hcc
              have HRR : Hid (bcR a b = bcL a b a.length) := by simp [Hid, bcR, hEE, ← HR.out]
              clear hcc hEE hz hown
              go_wp2_with fail
              refine HCC.out.mono ?_
              rintro e w' ⟨rfl, rfl⟩
              go_wp2
              go_ret2
              refine ⟨_, by rw [HEE.out]; rfl, ?_, hw⟩
              rw [HRR.out]
              exact HOW.out
            · have hz' := cntE_neq hz
              have HZ := hide hz
              have HEE := hide hEE
              have HCC := hide hcc
              obtain ⟨E, hE⟩ : ∃ E, E = cntE (bcL a b a.length) := ⟨_, rfl⟩
              rw [← hE] at hz' HZ HEE HCC
              clear hcc hEE hz hE hown
              go_wp2_with fail
              refine HCC.out.mono ?_
              rintro e w' ⟨rfl, rfl⟩
              go_wp2
              go_ret2
              exact ret_bc HEE.out HZ.out hw
    · have HEE : Hid (bcE a b = cntE b) := by simp [Hid, bcE, hE, hF]
      rw [hE] at hca
      have hz' := cntE_neq hF
      have HZ := hide hF
      obtain ⟨E, hEE⟩ : ∃ E, E = cntE b := ⟨_, rfl⟩
      rw [← hEE] at hz' HZ HEE hcb
      clear hE hF hEE
      go_enter Tryz.func52, Tryz.ntmps52
      go_wp2_with fail
      refine hca.out.mono ?_
      rintro e w' ⟨rfl, rfl⟩
      go_wp2_with fail
      refine hcb.out.mono ?_
      rintro e w' ⟨rfl, rfl⟩
      go_wp2
      go_ret2
      exact ret_bc HEE.out HZ.out (grown_refl _)
  · have HEE : Hid (bcE a b = cntE a) := by simp [Hid, bcE, hE]
    have hz' := cntE_neq hE
    have HZ := hide hE
    obtain ⟨E, hEE⟩ : ∃ E, E = cntE a := ⟨_, rfl⟩
    rw [← hEE] at hz' HZ HEE hca
    clear hE hEE
    go_enter Tryz.func52, Tryz.ntmps52
    go_wp2_with fail
    refine hca.out.mono ?_
    rintro e w' ⟨rfl, rfl⟩
    go_wp2
    go_ret2
    exact ret_bc HEE.out HZ.out (grown_refl _)

end Go.Proofs.YtfladhogkhhlcaaGreatDoor

/- Lists of whole numbers: new ones, parts of them, one more behind them. -/
namespace Go.Proofs.YtfladhogkhhlcaaGreatDoor
open Go.RowKit

/-- A new list of some numbers, whatever its type. -/
theorem ints_new (w : World) (zs : List Int) (t : TypeId) (hl : zs.length * 8 ≤ 140737488351232) (hz : ∀ z ∈ zs, -9223372036854775808 ≤ z ∧ z ≤ 9223372036854775807) :
    IsInts (w.alloc (.cells (zs.map (Value.int .i64)).toArray t)) (.slice (some ⟨w.heap.size, 0, none⟩) zs.length zs.length) zs := by
  refine ⟨_, _, rfl, Nat.le_refl _, by omega, hl, (fun h => by cases h), fun _ => ⟨_, _, rfl, fun k hk => ?_⟩, hz⟩
  rw [Nat.zero_add, cell_of_row _ _ k _ _ (0, 0) (heap_alloc_new w _)]
  simp [List.getD, hk]

/-- A part of a list. -/
theorem IsInts.part {w : World} {a : Option Addr} {n c : Nat} {zs : List Int} (h : IsInts w (.slice a n c) zs) (i j : Nat) (hij : i ≤ j) (hj : j ≤ zs.length) :
    ∃ a', IsInts w (.slice a' (j - i) (c - i)) ((zs.drop i).take (j - i)) ∧ (∀ b off, a = some ⟨b, off, none⟩ → a' = some ⟨b, off + i, none⟩) ∧ (a = none → a' = none) := by
  obtain ⟨ao, cap, e, h1, h2, h3, h4, h5, h6⟩ := h
  cases e
  have hlen : ((zs.drop i).take (j - i)).length = j - i := by simp; omega
  cases a with
  | none =>
    obtain ⟨rfl, rfl⟩ := h4 rfl
    have hj0 : j = 0 := by simpa using hj
    subst hj0
    have hi0 : i = 0 := by omega
    subst hi0
    exact ⟨none, ⟨none, 0, rfl, by simp, by simp, by simp, fun _ => ⟨by simp, rfl⟩, fun h => (by simp at h), fun z hz => (by simp at hz)⟩, (fun b off h => by cases h), fun _ => rfl⟩
  | some ad =>
    obtain ⟨b, off, sp⟩ := ad
    refine ⟨some ⟨b, off + i, sp⟩, ⟨some ⟨b, off + i, sp⟩, c - i, by rw [hlen], by rw [hlen]; omega, by omega, by rw [hlen]; omega, (fun h => by cases h), fun hp => ?_, fun z hz => h6 z (List.mem_of_mem_drop (List.mem_of_mem_take hz))⟩, (fun b' off' h => by cases h; rfl), fun h => by cases h⟩
    rw [hlen] at hp
    obtain ⟨b', off', e', hc⟩ := h5 (by omega)
    cases e'
    refine ⟨b, off + i, rfl, fun k hk => ?_⟩
    rw [hlen] at hk
    rw [Nat.add_assoc, hc (i + k) (by omega)]
    simp [List.getD, hk]
end Go.Proofs.YtfladhogkhhlcaaGreatDoor

/- The document's Strides, by the walk. -/
namespace Go.Proofs.YtfladhogkhhlcaaGreatDoor
open Go.RowKit

/-- A list of which the first k are filled. -/
def foreFill (n k : Nat) (l : List Int) : List Int := l.take k ++ List.replicate (n - k) 0

theorem foreFill_step {n k : Nat} {l : List Int} (hk : k < n) (hl : l.length = n) (z : Int) (hz : z = l.getD k 0) : (foreFill n k l).set k z = foreFill n (k + 1) l := by
  unfold foreFill
  rw [take_step l k (by omega), ← hz, List.set_append_right _ _ (by simp; omega), show n - k = (n - (k + 1)) + 1 by omega, List.replicate_succ]
  simp [show min k l.length = k by omega]

/-- A part of a list, from a place on, and up to a length. -/
theorem sub_ints {w : World} {b off cap len : Nat} {zs : List Int} (h : IsInts w (.slice (some ⟨b, off, none⟩) len cap) zs) (k n : Nat) {o' n' c' : Nat} (hk : k + n ≤ zs.length) (hn : n' = n) (hc : n' ≤ c') (hc' : c' ≤ 9223372036854775807) (ho : 0 < n → o' = off + k) :
    IsInts w (.slice (some ⟨b, o', none⟩) n' c') ((zs.drop k).take n) := by
  have hlen : ((zs.drop k).take n).length = n := by simp; omega
  refine ⟨_, _, by rw [hlen, hn], by rw [hlen]; omega, hc', by have := h.le; rw [hlen]; omega, (fun h => by cases h), fun hl => ⟨b, o', rfl, fun t ht => ?_⟩, fun z hz => h.wf z (List.mem_of_mem_drop (List.mem_of_mem_take hz))⟩
  rw [hlen] at hl ht
  rw [ho hl, Nat.add_assoc, item_at h (by omega)]
  simp [List.getD, ht]

theorem drop_all {zs : List Int} {k : Nat} (_hk : k ≤ zs.length) : (zs.drop k).take (zs.length - k) = zs.drop k := List.take_of_length_le (by simp)

theorem fore_step {w wr : World} {n k : Nat} {l : List Int} {z : Int} (hk : k < n) (hl : l.length = n) (hz : z = l.getD k 0) (hw : w.grownBy wr none)
    (hown : wr.ownsRow w.heap.size 3 1 (.slice (some ⟨w.heap.size, 0, none⟩) n n) n ((foreFill n k l).map (Value.int .i64))) :
    (∃ c, wr.cell? ⟨w.heap.size, k, none⟩ = some c) ∧ wr.frozen? ⟨w.heap.size, k, none⟩ = false ∧
    (wr.setCell ⟨w.heap.size, k, none⟩ (.int .i64 z)).ownsRow w.heap.size 3 1 (.slice (some ⟨w.heap.size, 0, none⟩) n n) n ((foreFill n (k + 1) l).map (Value.int .i64)) ∧
    w.grownBy (wr.setCell ⟨w.heap.size, k, none⟩ (.int .i64 z)) none := by
  have hl' := hown.1
  refine ⟨⟨_, by rw [hown.cellAt k (by omega), List.getElem?_eq_getElem (by omega)]⟩, hown.frozenAt _, ?_, grown_trans_row hw (hown.stored k (.int .i64 z)).2 (fun g hg => by injection hg with hg; omega)⟩
  have := (hown.stored k (.int .i64 z)).1
  rw [map_set_int, foreFill_step hk hl z hz] at this
  exact this

end Go.Proofs.YtfladhogkhhlcaaGreatDoor

/- Coords, by the walk: of the code, and the document's. -/
namespace Go.Proofs.YtfladhogkhhlcaaGreatDoor
open Go.RowKit

def crdsE (zs : List Int) (n : Int) : Int := if cntE zs ≠ 0 then cntE zs else if n < 0 ∨ prod zs ≤ n then 1 else 0
def crdsL (zs : List Int) (n : Int) : List Int := if crdsE zs n = 0 then crds zs n else []

theorem crds_back {zs : List Int} {k : Nat} (hk : k < zs.length) (n : Int) :
    crds (zs.drop (zs.length - (k + 1))) n = n / prod (zs.drop (zs.length - k)) % zs.getD (zs.length - 1 - k) 0 :: crds (zs.drop (zs.length - k)) n := by
  rw [drop_step zs (zs.length - (k + 1)) (by omega), show zs.length - (k + 1) + 1 = zs.length - k by omega, show zs.length - (k + 1) = zs.length - 1 - k by omega]
  rfl

theorem quo_back {zs : List Int} {k : Nat} (hF : Fine zs) (hk : k < zs.length) (n : Int) :
    n / prod (zs.drop (zs.length - k)) / zs.getD (zs.length - 1 - k) 0 = n / prod (zs.drop (zs.length - (k + 1))) := by
  rw [back_mul hk, Int.ediv_ediv_of_nonneg (by have := (hF.drop (zs.length - k)).prod_pos; omega)]

theorem inside_mem : ∀ {zs cs : List Int}, inside zs cs = true → ∀ c ∈ cs, 0 ≤ c ∧ ∃ z ∈ zs, c < z
  | [], [], _, c, hc => by simp at hc
  | z :: zs, x :: cs, h, c, hc => by
    simp only [inside, Bool.and_eq_true, decide_eq_true_eq] at h
    rcases List.mem_cons.1 hc with rfl | hc
    · exact ⟨h.1.1, z, by simp, h.1.2⟩
    · obtain ⟨h1, y, hy, h2⟩ := inside_mem h.2 c hc
      exact ⟨h1, y, by simp [hy], h2⟩
  | [], _ :: _, h, _, _ => by simp [inside] at h
  | _ :: _, [], h, _, _ => by simp [inside] at h

theorem le_prod : ∀ {zs : List Int}, (∀ z ∈ zs, 1 ≤ z) → ∀ z ∈ zs, z ≤ prod zs
  | y :: zs, h, z, hz => by
    have h1 := h y (by simp)
    have h2 := prod_pos zs (fun x hx => h x (by simp [hx]))
    rcases List.mem_cons.1 hz with rfl | hz
    · have := le_mul_right h2 (show 0 ≤ z by omega)
      simpa [prod] using this
    · have h3 := le_prod (fun x hx => h x (by simp [hx])) z hz
      have h4 := le_mul_left h1 (show 0 ≤ prod zs by omega)
      simp only [prod]
      omega

theorem crds_wf {zs : List Int} (hF : Fine zs) (n : Int) : ∀ z ∈ crds zs n, 0 ≤ z ∧ z ≤ 65536 := by
  intro z hz
  obtain ⟨h1, y, hy, h2⟩ := inside_mem (crds_inside zs n hF.pos) z hz
  have h3 := le_prod hF.pos y hy
  have h4 := hF.le
  omega

end Go.Proofs.YtfladhogkhhlcaaGreatDoor
