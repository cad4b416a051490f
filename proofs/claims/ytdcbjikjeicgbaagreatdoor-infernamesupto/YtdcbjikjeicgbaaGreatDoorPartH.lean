/- Joined texts: SSame, SCopy, SStr, SBc. -/
import Derived.Test.YtdcbjikjeicgbaaGreatDoorSCountJ
/- The document's Count and the comparison of two lists, by the walk. -/
namespace Go.Proofs.YtdcbjikjeicgbaaGreatDoor
open Go.RowKit

theorem refcount_any (v : Value) (zs : List Int) (w : World) (h : IsInts w v zs) :
    Calls Tryz.prog 21 #[v] w fun e w' => e = .returned (.tuple #[.int .i64 (cnt zs), .int .i64 (cntE zs)]) ∧ w = w' := by
  obtain ⟨ao, cap, rfl, h1, h2, h3, h4, h5, h6⟩ := h
  go_enter Tryz.func21, Tryz.ntmps21
  go_wp2
  go_loopw [4] (fun i wr => wr = w ∧ ∃ k : Nat, k ≤ zs.length ∧ i = .int .i64 k ∧ ∀ t, t < k → 1 ≤ zs.getD t 0) (fun i _ => zs.length - (intOf i).toNat)
  case atStart => exact ⟨rfl, 0, Nat.zero_le _, rfl, fun t h => absurd h (by omega)⟩
  case round =>
    obtain ⟨hw, k, hk, rfl, hp⟩ := hrel
    subst hw
    have HP : Hid (∀ t, t < k → 1 ≤ zs.getD t 0) := hp
    clear hp
    by_cases hkl : k < zs.length
    · obtain ⟨b, off, rfl, hc⟩ := h5 (by omega)
      obtain ⟨z, hz⟩ : ∃ z, z = zs.getD k 0 := ⟨_, rfl⟩
      have hcell := hc k hkl
      rw [← hz] at hcell
      have HZ : Hid (z = zs.getD k 0) := hz
      clear hz hc
      by_cases hz1 : z < 1
      · have HE : Hid (cntE zs = 4) := cntE_low (exists_low hkl HZ.out hz1)
        go_wp2
        go_ret2
        exact ⟨ret_err HE.out (by decide), rfl⟩
      · go_wp2
        go_roundw
        case rel =>
          refine ⟨by trivial, k + 1, by omega, by go_num, fun t ht => ?_⟩
          rcases lt_succ_cases ht with h | rfl
          · exact HP.out t h
          · have := HZ.out; omega
        case measure => simp [intOf]; omega
    · have hp : ∀ z ∈ zs, 1 ≤ z := all_of (fun t ht => HP.out t (by omega))
      have hP : Hid (∀ z ∈ zs, 1 ≤ z) := hp
      clear HP hp
      by_cases h7 : 6 < zs.length
      · have HE : Hid (cntE zs = 6) := cntE_many hP.out h7
        go_wp2
        go_ret2
        exact ⟨ret_err HE.out (by decide), rfl⟩
      · go_wp2
        go_loopw [5, 6] (fun n i w' => w' = wr ∧ ∃ k : Nat, k ≤ zs.length ∧ i = .int .i64 k ∧ n = .int .i64 (prod (zs.take k)) ∧ prod (zs.take k) ≤ 65536) (fun _ i _ => zs.length - (intOf i).toNat)
        case atStart => exact ⟨rfl, 0, Nat.zero_le _, rfl, by simp [prod], by simp [prod]⟩
        case round =>
          obtain ⟨hw, j, hj, rfl, hn, hle⟩ := hrel
          subst hw
          have hp1 := prod_pos _ (pos_take hP.out j)
          obtain ⟨p, hpd⟩ : ∃ p, p = prod (zs.take j) := ⟨_, rfl⟩
          rw [← hpd] at hn hle hp1
          subst hn
          have HPD : Hid (p = prod (zs.take j)) := hpd
          clear hpd
          by_cases hjl : j < zs.length
          · obtain ⟨b, off, rfl, hc⟩ := h5 (by omega)
            have hst := prod_take_step zs j hjl
            have hd1 : 1 ≤ zs.getD j 0 := hP.out _ (by rw [List.getD, List.getElem?_eq_getElem (by omega)]; simp)
            have hcell := hc j hjl
            rw [← HPD.out] at hst
            obtain ⟨d, hd⟩ : ∃ d, d = zs.getD j 0 := ⟨_, rfl⟩
            rw [← hd] at hcell hd1 hst
            have HST : Hid (prod (zs.take (j + 1)) = p * d) := hst
            clear hst hd hc
            have hall : Hid (65536 < p * d → cntE zs = 6) := fun ht => cntE_great hP.out (by
                have h2 := prod_take_le hP.out (j + 1)
                rw [HST.out] at h2
                omega)
            have hpd : d ≤ p * d := le_mul_left hp1 (by omega)
            by_cases ht : 65536 < d
            · go_wp2
              go_ret2
              exact ⟨ret_err (hall.out (by omega)) (by decide), rfl⟩
            · have hsm : p * d ≤ 65536 * 65536 := Int.mul_le_mul (by omega) (by omega) (by omega) (by omega)
              by_cases ht2 : 65536 < p * d
              · go_wp2
                go_ret2
                exact ⟨ret_err (hall.out ht2) (by decide), rfl⟩
              · go_wp2
                go_roundw
                case rel => exact ⟨by trivial, j + 1, by omega, by go_num, by rw [HST.out], by rw [HST.out]; omega⟩
                case measure => simp [intOf]; omega
          · have HT : Hid (p = prod zs) := by show p = prod zs; have := HPD.out; rw [List.take_of_length_le (by omega)] at this; exact this
            have HE : Hid (Fine zs) := ⟨hP.out, by omega, by have := HT.out; omega⟩
            have HN : Hid (p = cnt zs) := by show p = cnt zs; rw [HE.out.cnt]; exact HT.out
            go_wp2
            go_ret2
            exact ⟨by rw [HE.out.ok, ← HN.out]; rfl, rfl⟩

theorem list_eq_of {a b : List Int} (hl : a.length = b.length) (h : ∀ t, t < a.length → a.getD t 0 = b.getD t 0) : a = b := by
  apply List.ext_getElem hl
  intro t h1 h2
  have := h t h1
  simpa [List.getD, h1, h2] using this

theorem same_any (v u : Value) (xs ys : List Int) (w : World) (ha : IsInts w v xs) (hb : IsInts w u ys) :
    Calls Tryz.prog 20 #[v, u] w fun e w' => e = .returned (.bool (decide (xs = ys))) ∧ w.grownBy w' none := by
  have ha0 : Hid (IsInts w v xs) := ha
  have hb0 : Hid (IsInts w u ys) := hb
  obtain ⟨ao, acap, rfl, ha1, ha2, ha3, -, -, -⟩ := ha
  obtain ⟨bo, bcap, rfl, hb1, hb2, hb3, -, -, -⟩ := hb
  by_cases hl : xs.length = ys.length
  · have hl' : ((xs.length : Int) == (ys.length : Int)) = true := by simp [hl]
    have HL : Hid (xs.length = ys.length) := hl
    clear hl
    go_enter Tryz.func20, Tryz.ntmps20
    go_wp2
    go_loopw [5] (fun i wr => w.grownBy wr none ∧ ∃ k : Nat, k ≤ xs.length ∧ i = .int .i64 k ∧ ∀ t, t < k → xs.getD t 0 = ys.getD t 0) (fun i _ => xs.length - (intOf i).toNat)
    case atStart => exact ⟨grown_refl _, 0, Nat.zero_le _, rfl, fun t h => absurd h (by omega)⟩
    case round =>
      obtain ⟨hw, k, hk, rfl, hp⟩ := hrel
      have HP : Hid (∀ t, t < k → xs.getD t 0 = ys.getD t 0) := hp
      clear hp
      by_cases hkl : k < xs.length
      · obtain ⟨_, _, he, -, -, -, -, h5, -⟩ := ha0.out.more hw
        obtain ⟨b, off, ho, hc⟩ := h5 (by omega)
        obtain ⟨_, _, he', -, -, -, -, h5', -⟩ := hb0.out.more hw
        have hbl : k < ys.length := by have := HL.out; omega
        obtain ⟨b', off', ho', hc'⟩ := h5' (by omega)
        simp only [Value.slice.injEq, true_and] at he he'
        obtain ⟨rfl, rfl⟩ := he
        obtain ⟨rfl, rfl⟩ := he'
        subst ho ho'
        obtain ⟨z, hz⟩ : ∃ z, z = xs.getD k 0 := ⟨_, rfl⟩
        obtain ⟨y, hy⟩ : ∃ y, y = ys.getD k 0 := ⟨_, rfl⟩
        have hcell := hc k hkl
        have hcell' := hc' k hbl
        rw [← hz] at hcell
        rw [← hy] at hcell'
        have HZ : Hid (z = xs.getD k 0) := hz
        have HY : Hid (y = ys.getD k 0) := hy
        clear hz hc hy hc'
        by_cases hzy : z = y
        · have hzy' : (z == y) = true := by simp [hzy]
          have HE : Hid (z = y) := hzy
          clear hzy h5 h5'
          go_wp2
          go_region
          all_goals go_wp2
          all_goals
            go_roundw
            case rel =>
              refine ⟨grown_drew hw, k + 1, by omega, by go_num, fun t ht => ?_⟩
              rcases lt_succ_cases ht with h | rfl
              · exact HP.out t h
              · have := HZ.out; have := HY.out; have := HE.out; omega
            case measure => simp [intOf]; omega
        · have hzy' : (z == y) = false := by simp [hzy]
          have HE : Hid (xs ≠ ys) := fun h => hzy (by rw [HZ.out, HY.out, h])
          clear hzy h5 h5'
          go_wp2
          go_region
          all_goals go_wp2
          all_goals go_ret
          all_goals exact ⟨by rw [decide_eq_false HE.out]; rfl, grown_drew hw⟩
      · have HE : Hid (xs = ys) := list_eq_of HL.out (fun t ht => HP.out t (by omega))
        go_wp2
        go_ret
        exact ⟨by rw [decide_eq_true HE.out]; rfl, hw⟩
  · have hl' : ((xs.length : Int) == (ys.length : Int)) = false := by simp; omega
    have HE : Hid (xs ≠ ys) := fun h => hl (by rw [h])
    clear hl
    go_enter Tryz.func20, Tryz.ntmps20
    go_wp2
    go_ret
    exact ⟨by rw [decide_eq_false HE.out]; rfl, grown_refl _⟩
end Go.Proofs.YtdcbjikjeicgbaaGreatDoor

/- A list of its own, and a list that is spoilt, by the walk. -/
namespace Go.Proofs.YtdcbjikjeicgbaaGreatDoor
open Go.RowKit

theorem infoInt : (Tryz.prog.info? 3).map (fun i => (i.zero, i.size, i.bytes)) = some (some (.int .i64 0), 1, 8) := by kernel_rfl

theorem list_cells {w : World} {b off : Nat} {ys : List Int} (hc : ∀ t, t < ys.length → w.cell? ⟨b, off + t, none⟩ = some (.int .i64 (ys.getD t 0))) :
    ∀ j u, (ys.map (Value.int .i64))[j]? = some u → w.cell? ((⟨b, off, none⟩ : Addr).add j) = some u := by
  intro j u hu
  obtain ⟨hj, hv⟩ := List.getElem?_eq_some_iff.1 hu
  have hj' : j < ys.length := by simpa using hj
  rw [Addr.add_lit, hc j hj', ← hv]
  simp [List.getD, hj']

/-- append(s, x...): s of the call's own, x any list. -/
theorem wpList_app {w : World} {ops : Array Oper} {rest : List Oper} {o : Oper} {a : Act} {Q : Exit → Act → World → Prop} (hgd : o.guard = none) (s x : Operand)
    (ho : o.op = .call { callee := .builtin .append, args := #[s, x], argTypes := #[29, 29] })
    (base : Nat) (v : Value) (xs : List Int) (hs : a.eval s = v) (hown : Owns w base v xs) (xv : Value) (ys : List Int) (hx : a.eval x = xv) (hys : IsInts w xv ys)
    (hbytes : (xs.length + ys.length) * 8 ≤ 140737488351232) (hbase : base ≤ w.heap.size)
    (h : ∀ v' w', Owns w' base v' (xs ++ ys) → w.grownBy w' v.ownBlock → wpList Tryz.prog ops Q rest (a.put o.dst v') w') : wpList Tryz.prog ops Q (o :: rest) a w := by
  obtain ⟨i0, hi, hz0, hz1, hz2⟩ := info_parts infoInt
  obtain ⟨ao, cap, rfl, h1, h2, h3, h4, h5, h6⟩ := hys
  cases ao with
  | none =>
    obtain ⟨rfl, rfl⟩ := h4 rfl
    refine wpList_append_own_none hgd s x 29 ho base 3 i0 1 Tryz.underlying29 hi v _ _ hs hown.1 hx ?_
    exact h v w (by simpa using hown) (World.grownBy.refl _ _)
  | some ad =>
    refine wpList_append_own w hgd s x 29 ho base 3 i0 (.int .i64 0) 1 8 Tryz.underlying29 hi hz0 hz1 hz2 rfl (by decide) v _ _ hs hown.1 ad ys.length cap (ys.map (Value.int .i64)) hx (by simp) ?_ (ints_oneCell _ _) (by simp only [maxLen]; omega) (by omega) hbase ?_
    · by_cases hl : 0 < ys.length
      · obtain ⟨b, off, hao, hc⟩ := h5 hl
        obtain rfl := Option.some.inj hao
        exact list_cells hc
      · obtain rfl : ys = [] := List.length_eq_zero_iff.1 (by omega)
        intro j u hu
        simp at hu
    · intro v' w' ho' hg _
      refine h v' w' ⟨by simpa using ho', by simpa using hbytes, fun z hz => ?_⟩ hg
      rcases List.mem_append.1 hz with h | h
      · exact hown.2.2 z h
      · exact h6 z h

theorem owns_nil (w : World) (base : Nat) : Owns w base (.slice none 0 0) [] := ⟨World.ownsRow_nil _ _ _ _, by simp, fun z hz => by simp at hz⟩

theorem copy_any (v : Value) (zs : List Int) (w : World) (h : IsInts w v zs) :
    Calls Tryz.prog 24 #[v] w fun e w' => ∃ u, e = .returned u ∧ Owns w' w.heap.size u zs ∧ w.grownBy w' none := by
  have h3 := h.le
  have H := hide h
  clear h
  go_enter Tryz.func24, Tryz.ntmps24
  go_wp2_with (at_builtin; refine wpList_app rfl (.tmp 4) (.tmp 5) rfl w.heap.size _ [] rfl (owns_nil _ _) v zs rfl H.out (by simpa using h3) (Nat.le_refl _) ?_; intro v' w1 hown hgrow)
  go_ret
  exact ⟨_, rfl, by simpa using hown, hgrow⟩

theorem grown_trans_same {a b c : World} {row : Option Nat} (h : a.grownBy b row) (k : b.grownBy c row) : a.grownBy c row :=
  ⟨k.os.trans h.os, k.tape.trans h.tape, k.output.trans h.output, Nat.le_trans h.size k.size, fun i hi hn => (k.block i (Nat.lt_of_lt_of_le hi h.size) hn).trans (h.block i hi hn)⟩

end Go.Proofs.YtdcbjikjeicgbaaGreatDoor

/- Strides, by the walk. -/
namespace Go.Proofs.YtdcbjikjeicgbaaGreatDoor
open Go.RowKit

/-- A list of which the last k are filled. -/
def backFill (n k : Nat) (l : List Int) : List Int := List.replicate (n - k) 0 ++ l

theorem backFill_step {n k : Nat} (hk : k < n) (l : List Int) (z : Int) : (backFill n k l).set (n - 1 - k) z = backFill n (k + 1) (z :: l) := by
  unfold backFill
  have e : List.replicate (n - k) (0 : Int) = List.replicate (n - (k + 1)) 0 ++ [0] := by
    rw [show n - k = (n - (k + 1)) + 1 by omega, List.replicate_succ']
  rw [e, show n - 1 - k = n - (k + 1) by omega, List.append_assoc, List.set_append_right _ _ (by simp)]
  simp

theorem strd_back {zs : List Int} {k : Nat} (hk : k < zs.length) : strd (zs.drop (zs.length - (k + 1))) = prod (zs.drop (zs.length - k)) :: strd (zs.drop (zs.length - k)) := by
  rw [drop_step zs (zs.length - (k + 1)) (by omega), show zs.length - (k + 1) + 1 = zs.length - k by omega]
  rfl

theorem back_mul {zs : List Int} {k : Nat} (hk : k < zs.length) : prod (zs.drop (zs.length - (k + 1))) = prod (zs.drop (zs.length - k)) * zs.getD (zs.length - 1 - k) 0 := by
  rw [back_step hk, bh_in hk]

theorem map_set_int (l : List Int) (i : Nat) (z : Int) : (l.map (Value.int .i64)).set i (.int .i64 z) = (l.set i z).map (Value.int .i64) := by
  rw [List.map_set]

theorem made_zeros (n : Nat) : (madeCells (Value.int .i64 0).cells (n * 1)).toList = (List.replicate n (0 : Int)).map (Value.int .i64) := by
  rw [Nat.mul_one, show (Value.int .i64 0).cells = #[Value.int .i64 0] from rfl, toList_madeCells_one]
  simp

theorem strd_le {zs : List Int} (h : Fine zs) : ∀ s ∈ strd zs, 1 ≤ s ∧ s ≤ 65536 := by
  induction zs with
  | nil => intro s hs; simp [strd] at hs
  | cons z zs ih =>
    intro s hs
    have hd : Fine zs := by have := h.drop 1; simpa using this
    rcases List.mem_cons.1 hs with rfl | hs
    · exact ⟨hd.prod_pos, hd.le⟩
    · exact ih hd s hs

theorem ret_err' {zs : List Int} {e : Int} (h : cntE zs = e) : Ending.returned (.tuple #[.slice none 0 0, .int .i64 e]) = Ending.returned (.tuple #[.slice none 0 0, .int .i64 (cntE zs)]) := by rw [h]

/-- A row of the call's own that is filled from the back, at one more place. -/
theorem fill_step {w wr : World} {n k : Nat} {l : List Int} {z : Int} (hk : k < n) (hw : w.grownBy wr none)
    (hown : wr.ownsRow w.heap.size 3 1 (.slice (some ⟨w.heap.size, 0, none⟩) n n) n ((backFill n k l).map (Value.int .i64))) :
    (∃ c, wr.cell? ⟨w.heap.size, n - 1 - k, none⟩ = some c) ∧ wr.frozen? ⟨w.heap.size, n - 1 - k, none⟩ = false ∧
    (wr.setCell ⟨w.heap.size, n - 1 - k, none⟩ (.int .i64 z)).ownsRow w.heap.size 3 1 (.slice (some ⟨w.heap.size, 0, none⟩) n n) n ((backFill n (k + 1) (z :: l)).map (Value.int .i64)) ∧
    w.grownBy (wr.setCell ⟨w.heap.size, n - 1 - k, none⟩ (.int .i64 z)) none := by
  have hl := hown.1
  refine ⟨⟨_, by rw [hown.cellAt (n - 1 - k) (by omega), List.getElem?_eq_getElem (by omega)]⟩, hown.frozenAt _, ?_, grown_trans_row hw (hown.stored (n - 1 - k) (.int .i64 z)).2 (fun g hg => by injection hg with hg; omega)⟩
  have := (hown.stored (n - 1 - k) (.int .i64 z)).1
  rw [map_set_int, backFill_step hk] at this
  exact this

/-- An item of a list that came in, in a later world. -/
theorem item_at {w : World} {b off cap len : Nat} {zs : List Int} (h : IsInts w (.slice (some ⟨b, off, none⟩) len cap) zs) {k : Nat} (hk : k < zs.length) :
    w.cell? ⟨b, off + k, none⟩ = some (.int .i64 (zs.getD k 0)) := by
  obtain ⟨_, _, he, -, -, -, -, h5, -⟩ := h
  obtain ⟨b', off', ho, hc⟩ := h5 (by omega)
  simp only [Value.slice.injEq] at he
  rw [ho] at he
  simp only [Option.some.injEq, Addr.mk.injEq] at he
  obtain ⟨⟨rfl, rfl, -⟩, -⟩ := he
  exact hc k hk

theorem addr_of {w : World} {ao : Option Addr} {cap len : Nat} {zs : List Int} (h : IsInts w (.slice ao len cap) zs) (hk : 0 < zs.length) : ∃ b off, ao = some ⟨b, off, none⟩ := by
  obtain ⟨_, _, he, -, -, -, -, h5, -⟩ := h
  obtain ⟨b', off', ho, -⟩ := h5 hk
  simp only [Value.slice.injEq] at he
  exact ⟨b', off', by rw [he.1, ho]⟩

theorem block_lt {w : World} {b off cap len : Nat} {zs : List Int} (h : IsInts w (.slice (some ⟨b, off, none⟩) len cap) zs) (hk : 0 < zs.length) : b < w.heap.size :=
  World.block_lt_of_cell? w _ (item_at h hk)

/-- What Strides answers: with an error nothing. -/
def strdE (zs : List Int) : List Int := if cntE zs = 0 then strd zs else []

end Go.Proofs.YtdcbjikjeicgbaaGreatDoor

/- Broadcast, by the walk: of the code, and the document's. -/
namespace Go.Proofs.YtdcbjikjeicgbaaGreatDoor
open Go.RowKit

theorem refat_any (v : Value) (zs : List Int) (i : Nat) (w : World) (h : IsInts w v zs) (hi : i ≤ 1000000000000) :
    Calls Tryz.prog 127 #[v, .int .i64 i] w fun e w' => e = .returned (.int .i64 (bh zs i)) ∧ w = w' := by
  obtain ⟨ao, cap, rfl, h1, h2, h3, h4, h5, h6⟩ := h
  by_cases hl : zs.length ≤ i
  · have hb : bh zs i = 1 := by simp [bh, hl]
    rw [hb]
    clear h4 h5 h6 hb
    go_enter Tryz.func127, Tryz.ntmps127
    go_wp2
    go_ret
    exact ⟨rfl, rfl⟩
  · obtain ⟨b, off, rfl, hc⟩ := h5 (by omega)
    have hb : bh zs i = zs.getD (zs.length - 1 - i) 0 := by simp [bh, hl]
    have hcell : w.cell? ⟨b, off + (zs.length - 1 - i), none⟩ = some (.int .i64 (bh zs i)) := by rw [hb]; exact hc _ (by omega)
    clear h4 h5 h6 hb hc
    go_enter Tryz.func127, Tryz.ntmps127
    go_wp2
    go_ret
    exact ⟨rfl, rfl⟩

/-- Two dimensions that can't be spread to one another. -/
def apartAt (p q : Int) : Bool := !(p == q) && (!(p == 1) && !(q == 1))
/-- The greater ones, of the last k places. -/
def bcL (a b : List Int) : Nat → List Int
  | 0 => []
  | k + 1 => max (bh a k) (bh b k) :: bcL a b k
def bcBad (a b : List Int) : Nat → Bool
  | 0 => false
  | k + 1 => apartAt (bh a k) (bh b k) || bcBad a b k
def rank (a b : List Int) : Nat := max a.length b.length
def bcE (a b : List Int) : Int := if cntE a ≠ 0 then cntE a else if cntE b ≠ 0 then cntE b else if bcBad a b (rank a b) = true then 4 else cntE (bcL a b (rank a b))
def bcR (a b : List Int) : List Int := if bcE a b = 0 then bcL a b (rank a b) else []

theorem bcL_length (a b : List Int) (k : Nat) : (bcL a b k).length = k := by
  induction k with
  | zero => rfl
  | succ k ih => simp [bcL, ih]

theorem bcBad_of {a b : List Int} {k n : Nat} (hk : k < n) (h : apartAt (bh a k) (bh b k) = true) : bcBad a b n = true := by
  induction n with
  | zero => omega
  | succ n ih =>
    rcases lt_succ_cases hk with h1 | rfl
    · simp [bcBad, ih h1]
    · simp [bcBad, h]

theorem bh_wf {zs : List Int} (h : ∀ z ∈ zs, -9223372036854775808 ≤ z ∧ z ≤ 9223372036854775807) (i : Nat) : -9223372036854775808 ≤ bh zs i ∧ bh zs i ≤ 9223372036854775807 := by
  unfold bh
  split
  · omega
  · exact h _ (by rw [List.getD, List.getElem?_eq_getElem (by omega)]; simp)

theorem bcL_wf {a b : List Int} (ha : ∀ z ∈ a, -9223372036854775808 ≤ z ∧ z ≤ 9223372036854775807) (hb : ∀ z ∈ b, -9223372036854775808 ≤ z ∧ z ≤ 9223372036854775807) (k : Nat) : ∀ z ∈ bcL a b k, -9223372036854775808 ≤ z ∧ z ≤ 9223372036854775807 := by
  induction k with
  | zero => intro z hz; simp [bcL] at hz
  | succ k ih =>
    intro z hz
    rcases List.mem_cons.1 hz with rfl | hz
    · have h1 := bh_wf ha k
      have h2 := bh_wf hb k
      omega
    · exact ih z hz

theorem apart_cases (p q : Int) (h : apartAt p q = true) : (p == q) = false ∧ (p == 1) = false ∧ (q == 1) = false := by
  simp only [apartAt, Bool.and_eq_true, Bool.not_eq_true'] at h
  exact h

theorem ret_bc {E : Int} {a b : List Int} {w w' : World} (h : bcE a b = E) (h0 : E ≠ 0) (hg : w.grownBy w' none) :
    ∃ u, Ending.returned (.tuple #[.slice none 0 0, .int .i64 E]) = .returned (.tuple #[u, .int .i64 (bcE a b)]) ∧ Owns w' w.heap.size u (bcR a b) ∧ w.grownBy w' none :=
  ⟨_, by rw [h], by rw [show bcR a b = [] by simp [bcR, h, h0]]; exact owns_nil _ _, hg⟩

theorem cntE_neq {zs : List Int} (h : cntE zs ≠ 0) : (cntE zs == 0) = false := by simpa using h

set_option maxRecDepth 100000 in
set_option maxHeartbeats 1600000 in
theorem bc_any (v u : Value) (a b : List Int) (w : World) (h : IsInts w v a) (hu : IsInts w u b) :
    Calls Tryz.prog 174 #[v, u] w fun e w' => ∃ r, e = .returned (.tuple #[r, .int .i64 (bcE a b)]) ∧ Owns w' w.heap.size r (bcR a b) ∧ w.grownBy w' none := by
  obtain ⟨i0, hi, hz0, hz1, hz2⟩ := info_parts infoInt
  have hca := hide (count_any v a w h)
  have hcb := hide (count_any u b w hu)
  have h0 := hide h
  have hu0 := hide hu
  obtain ⟨ao, cap, rfl, h1, h2, h3, -, -, -⟩ := h
  obtain ⟨bo, bcap, rfl, hb1, hb2, hb3, -, -, -⟩ := hu
  by_cases hE : cntE a = 0
  · by_cases hF : cntE b = 0
    · have HA := hide (fine_of hE)
      have HB := hide (fine_of hF)
      have HEF : Hid (bcE a b = if bcBad a b (rank a b) = true then 4 else cntE (bcL a b (rank a b))) := by simp [Hid, bcE, hE, hF]
      rw [hE] at hca
      rw [hF] at hcb
      clear hE hF
      have hl1 := HA.out.few
      have hl2 := HB.out.few
      by_cases hlt : a.length < b.length
      · skip
        have HR : Hid (b.length = rank a b) := by simp only [Hid, rank]; omega
        rw [← HR.out] at HEF
        have hb4 : i0.bytes * b.length ≤ 281474976710656 := by rw [hz2]; omega
        have hb5 : b.length ≤ maxLen := by simp only [maxLen]; omega
        go_enter Tryz.func174, Tryz.ntmps174
        go_wp2_with fail
        refine hca.out.mono ?_
        rintro e w' ⟨rfl, rfl⟩
        go_wp2_with fail
        refine hcb.out.mono ?_
        rintro e w' ⟨rfl, rfl⟩
        go_wp2_with (refine wpList_make_full _ rfl (.tmp 38) (.tmp 38) 29 rfl w.heap.size 3 i0 (.int .i64 0) 1 Tryz.underlying29 hi hz0 hz1 .i64 .i64 _ _ b.length rfl rfl rfl rfl hb4 hb5 (Nat.le_refl _) ?_; intro w1 hown hgrow)
        rw [made_zeros] at hown
        go_loopw [41] (fun i wr => w.grownBy wr none ∧ ∃ k : Nat, k ≤ b.length ∧ i = .int .i64 k ∧ bcBad a b k = false ∧
          wr.ownsRow w.heap.size 3 1 (.slice (some ⟨w.heap.size, 0, none⟩) b.length b.length) b.length ((backFill b.length k (bcL a b k)).map (Value.int .i64))) (fun i _ => b.length - (intOf i).toNat)
        case atStart => exact ⟨hgrow, 0, Nat.zero_le _, rfl, rfl, by simpa [backFill, bcL] using hown⟩
        case round =>
          clear hown hgrow
          obtain ⟨hw, k, hk, rfl, hbad, hown⟩ := hrel
          have HBAD := hide hbad
          clear hbad
          by_cases hkl : k < b.length
          · have hpa := behind_any _ a k _ (h0.out.more hw) (by omega)
            have hpb := behind_any _ b k _ (hu0.out.more hw) (by omega)
            have hp1 := bh_pos (k := k) HA.out.pos
            have hq1 := bh_pos (k := k) HB.out.pos
            have hbo := @bcBad_of a b k b.length hkl
            obtain ⟨p, hp⟩ : ∃ p, p = bh a k := ⟨_, rfl⟩
            obtain ⟨q, hq⟩ : ∃ q, q = bh b k := ⟨_, rfl⟩
            rw [← hp] at hpa hp1 hbo
            rw [← hq] at hpb hq1 hbo
            have HPA := hide hpa
            have HPB := hide hpb
            have HP := hide hp
            have HQ := hide hq
            have HBO := hide hbo
            clear hpa hpb hp hq hbo
            by_cases hap : apartAt p q = true
            · obtain ⟨t1, t2, t3⟩ := apart_cases p q hap
              have HE4 : Hid (bcE a b = 4) := by simp only [Hid]; rw [HEF.out, if_pos (HBO.out hap)]
              have n1 : (p != q) = true := by simp [bne, t1]
              have n2 : (p != 1) = true := by simp [bne, t2]
              have n3 : (q != 1) = true := by simp [bne, t3]
              clear hap t1 t2 t3
              go_wp2_with fail
              refine HPA.out.mono ?_
              rintro e w' ⟨rfl, rfl⟩
              go_wp2_with fail
              refine HPB.out.mono ?_
              rintro e w' ⟨rfl, rfl⟩
              go_wp2
              go_ret2
              exact ret_bc HE4.out (by decide) hw
            · have HNB : Hid (apartAt p q = false) := by simp only [Hid]; simpa using hap
              rcases (show p = q ∨ (p ≠ q ∧ p = 1) ∨ (p ≠ q ∧ p ≠ 1 ∧ q = 1) by
                simp only [apartAt, Bool.and_eq_true, Bool.not_eq_true', beq_eq_false_iff_ne, ne_eq] at hap; omega) with hc1 | ⟨hc1, hc2⟩ | ⟨hc1, hc2, hc3⟩
              · subst hc1
                obtain ⟨⟨c, hc⟩, hf, hown2, hw2⟩ := fill_step (z := p) hkl hw hown
                have HM : Hid (p = max p p) := by simp only [Hid]; omega
                have HO := hide hown2
                have HW := hide hw2
                clear hap
                clear hown hown2 hw2 hw
                go_wp2_with fail
                refine HPA.out.mono ?_
                rintro e w' ⟨rfl, rfl⟩
                go_wp2_with fail
                refine HPB.out.mono ?_
                rintro e w' ⟨rfl, rfl⟩
                go_wp2
                go_roundw
                case rel =>
                  refine ⟨HW.out, k + 1, by omega, by go_num, ?_, ?_⟩
                  · simp only [bcBad]
                    rw [← HP.out, ← HQ.out, HNB.out, HBAD.out]
                    rfl
                  · simp only [bcL]
                    rw [← HP.out, ← HQ.out, ← HM.out]
                    exact HO.out
                case measure => simp [intOf]; omega
              · subst hc2
                obtain ⟨⟨c, hc⟩, hf, hown2, hw2⟩ := fill_step (z := q) hkl hw hown
                have HM : Hid (q = max 1 q) := by simp only [Hid]; omega
                have HO := hide hown2
                have HW := hide hw2
                have n1 : 1 < q := by omega
                have n2 : ((1 : Int) != q) = true := by simp; omega
                clear hap hc1
                clear hown hown2 hw2 hw
                go_wp2_with fail
                refine HPA.out.mono ?_
                rintro e w' ⟨rfl, rfl⟩
                go_wp2_with fail
                refine HPB.out.mono ?_
                rintro e w' ⟨rfl, rfl⟩
                go_wp2
                go_roundw
                case rel =>
                  refine ⟨HW.out, k + 1, by omega, by go_num, ?_, ?_⟩
                  · simp only [bcBad]
                    rw [← HP.out, ← HQ.out, HNB.out, HBAD.out]
                    rfl
                  · simp only [bcL]
                    rw [← HP.out, ← HQ.out, ← HM.out]
                    exact HO.out
                case measure => simp [intOf]; omega
              · subst hc3
                obtain ⟨⟨c, hc⟩, hf, hown2, hw2⟩ := fill_step (z := p) hkl hw hown
                have HM : Hid (p = max p 1) := by simp only [Hid]; omega
                have HO := hide hown2
                have HW := hide hw2
                have n1 : 1 < p := by omega
                have n2 : (p != 1) = true := by simp; omega
                clear hap hc1 hc2
                clear hown hown2 hw2 hw
                go_wp2_with fail
                refine HPA.out.mono ?_
                rintro e w' ⟨rfl, rfl⟩
                go_wp2_with fail
                refine HPB.out.mono ?_
                rintro e w' ⟨rfl, rfl⟩
                go_wp2
                go_roundw
                case rel =>
                  refine ⟨HW.out, k + 1, by omega, by go_num, ?_, ?_⟩
                  · simp only [bcBad]
                    rw [← HP.out, ← HQ.out, HNB.out, HBAD.out]
                    rfl
                  · simp only [bcL]
                    rw [← HP.out, ← HQ.out, ← HM.out]
                    exact HO.out
                case measure => simp [intOf]; omega
          · have HOW : Hid (Owns wr w.heap.size (.slice (some ⟨w.heap.size, 0, none⟩) b.length b.length) (bcL a b b.length)) := by
              refine ⟨?_, by rw [bcL_length]; omega, bcL_wf h0.out.wf hu0.out.wf _⟩
              have := hown
              rw [show k = b.length by omega, show backFill b.length b.length (bcL a b b.length) = bcL a b b.length by simp [backFill]] at this
              rw [bcL_length]
              exact this
            have HB0 : Hid (bcBad a b b.length = false) := by simp only [Hid]; rw [show b.length = k by omega]; exact HBAD.out
            have hcc := count_any _ _ _ HOW.out.ints
            have hEE : bcE a b = cntE (bcL a b b.length) := by rw [HEF.out, if_neg (by rw [HB0.out]; decide)]
            by_cases hz : cntE (bcL a b b.length) = 0
            · rw [hz] at hcc hEE
              have HEE := hide hEE
              have HCC := hide hcc
              have HRR : Hid (bcR a b = bcL a b b.length) := by simp [Hid, bcR, hEE, ← HR.out]
              clear hcc hEE hz hown
              go_wp2_with fail
              refine HCC.out.mono ?_
              rintro e w' ⟨rfl, rfl⟩
              go_wp2
              go_ret2
              refine ⟨_, by rw [HEE.out]; rfl, ?_, hw⟩
              rw [HRR.out]
              exact HOW.out
            · have hz' := cntE_neq hz
              have HZ := hide hz
              have HEE := hide hEE
              have HCC := hide hcc
              obtain ⟨E, hE⟩ : ∃ E, E = cntE (bcL a b b.length) := ⟨_, rfl⟩
              rw [← hE] at hz' HZ HEE HCC
              clear hcc hEE hz hE hown
              go_wp2_with fail
              refine HCC.out.mono ?_
              rintro e w' ⟨rfl, rfl⟩
              go_wp2
              go_ret2
              exact ret_bc HEE.out HZ.out hw
      · skip
        have HR : Hid (a.length = rank a b) := by simp only [Hid, rank]; omega
        rw [← HR.out] at HEF
        have hb4 : i0.bytes * a.length ≤ 281474976710656 := by rw [hz2]; omega
        have hb5 : a.length ≤ maxLen := by simp only [maxLen]; omega
        go_enter Tryz.func174, Tryz.ntmps174
        go_wp2_with fail
        refine hca.out.mono ?_
        rintro e w' ⟨rfl, rfl⟩
        go_wp2_with fail
        refine hcb.out.mono ?_
        rintro e w' ⟨rfl, rfl⟩
        go_wp2_with (refine wpList_make_full _ rfl (.tmp 38) (.tmp 38) 29 rfl w.heap.size 3 i0 (.int .i64 0) 1 Tryz.underlying29 hi hz0 hz1 .i64 .i64 _ _ a.length rfl rfl rfl rfl hb4 hb5 (Nat.le_refl _) ?_; intro w1 hown hgrow)
        rw [made_zeros] at hown
        go_loopw [41] (fun i wr => w.grownBy wr none ∧ ∃ k : Nat, k ≤ a.length ∧ i = .int .i64 k ∧ bcBad a b k = false ∧
          wr.ownsRow w.heap.size 3 1 (.slice (some ⟨w.heap.size, 0, none⟩) a.length a.length) a.length ((backFill a.length k (bcL a b k)).map (Value.int .i64))) (fun i _ => a.length - (intOf i).toNat)
        case atStart => exact ⟨hgrow, 0, Nat.zero_le _, rfl, rfl, by simpa [backFill, bcL] using hown⟩
        case round =>
          clear hown hgrow
          obtain ⟨hw, k, hk, rfl, hbad, hown⟩ := hrel
          have HBAD := hide hbad
          clear hbad
          by_cases hkl : k < a.length
          · have hpa := behind_any _ a k _ (h0.out.more hw) (by omega)
            have hpb := behind_any _ b k _ (hu0.out.more hw) (by omega)
            have hp1 := bh_pos (k := k) HA.out.pos
            have hq1 := bh_pos (k := k) HB.out.pos
            have hbo := @bcBad_of a b k a.length hkl
            obtain ⟨p, hp⟩ : ∃ p, p = bh a k := ⟨_, rfl⟩
            obtain ⟨q, hq⟩ : ∃ q, q = bh b k := ⟨_, rfl⟩
            rw [← hp] at hpa hp1 hbo
            rw [← hq] at hpb hq1 hbo
            have HPA := hide hpa
            have HPB := hide hpb
            have HP := hide hp
            have HQ := hide hq
            have HBO := hide hbo
            clear hpa hpb hp hq hbo
            by_cases hap : apartAt p q = true
            · obtain ⟨t1, t2, t3⟩ := apart_cases p q hap
              have HE4 : Hid (bcE a b = 4) := by simp only [Hid]; rw [HEF.out, if_pos (HBO.out hap)]
              have n1 : (p != q) = true := by simp [bne, t1]
              have n2 : (p != 1) = true := by simp [bne, t2]
              have n3 : (q != 1) = true := by simp [bne, t3]
              clear hap t1 t2 t3
              go_wp2_with fail
              refine HPA.out.mono ?_
              rintro e w' ⟨rfl, rfl⟩
              go_wp2_with fail
              refine HPB.out.mono ?_
              rintro e w' ⟨rfl, rfl⟩
              go_wp2
              go_ret2
              exact ret_bc HE4.out (by decide) hw
            · have HNB : Hid (apartAt p q = false) := by simp only [Hid]; simpa using hap
              rcases (show p = q ∨ (p ≠ q ∧ p = 1) ∨ (p ≠ q ∧ p ≠ 1 ∧ q = 1) by
                simp only [apartAt, Bool.and_eq_true, Bool.not_eq_true', beq_eq_false_iff_ne, ne_eq] at hap; omega) with hc1 | ⟨hc1, hc2⟩ | ⟨hc1, hc2, hc3⟩
              · subst hc1
                obtain ⟨⟨c, hc⟩, hf, hown2, hw2⟩ := fill_step (z := p) hkl hw hown
                have HM : Hid (p = max p p) := by simp only [Hid]; omega
                have HO := hide hown2
                have HW := hide hw2
                clear hap
                clear hown hown2 hw2 hw
                go_wp2_with fail
                refine HPA.out.mono ?_
                rintro e w' ⟨rfl, rfl⟩
                go_wp2_with fail
                refine HPB.out.mono ?_
                rintro e w' ⟨rfl, rfl⟩
                go_wp2
                go_roundw
                case rel =>
                  refine ⟨HW.out, k + 1, by omega, by go_num, ?_, ?_⟩
                  · simp only [bcBad]
                    rw [← HP.out, ← HQ.out, HNB.out, HBAD.out]
                    rfl
                  · simp only [bcL]
                    rw [← HP.out, ← HQ.out, ← HM.out]
                    exact HO.out
                case measure => simp [intOf]; omega
              · subst hc2
                obtain ⟨⟨c, hc⟩, hf, hown2, hw2⟩ := fill_step (z := q) hkl hw hown
                have HM : Hid (q = max 1 q) := by simp only [Hid]; omega
                have HO := hide hown2
                have HW := hide hw2
                have n1 : 1 < q := by omega
                have n2 : ((1 : Int) != q) = true := by simp; omega
                clear hap hc1
                clear hown hown2 hw2 hw
                go_wp2_with fail
                refine HPA.out.mono ?_
                rintro e w' ⟨rfl, rfl⟩
                go_wp2_with fail
                refine HPB.out.mono ?_
                rintro e w' ⟨rfl, rfl⟩
                go_wp2
                go_roundw
                case rel =>
                  refine ⟨HW.out, k + 1, by omega, by go_num, ?_, ?_⟩
                  · simp only [bcBad]
                    rw [← HP.out, ← HQ.out, HNB.out, HBAD.out]
                    rfl
                  · simp only [bcL]
                    rw [← HP.out, ← HQ.out, ← HM.out]
                    exact HO.out
                case measure => simp [intOf]; omega
              · subst hc3
                obtain ⟨⟨c, hc⟩, hf, hown2, hw2⟩ := fill_step (z := p) hkl hw hown
                have HM : Hid (p = max p 1) := by simp only [Hid]; omega
                have HO := hide hown2
                have HW := hide hw2
                have n1 : 1 < p := by omega
                have n2 : (p != 1) = true := by simp; omega
                clear hap hc1 hc2
                clear hown hown2 hw2 hw
                go_wp2_with fail
                refine HPA.out.mono ?_
                rintro e w' ⟨rfl, rfl⟩
                go_wp2_with fail
                refine HPB.out.mono ?_
                rintro e w' ⟨rfl, rfl⟩
                go_wp2
                go_roundw
                case rel =>
                  refine ⟨HW.out, k + 1, by omega, by go_num, ?_, ?_⟩
                  · simp only [bcBad]
                    rw [← HP.out, ← HQ.out, HNB.out, HBAD.out]
                    rfl
                  · simp only [bcL]
                    rw [← HP.out, ← HQ.out, ← HM.out]
                    exact HO.out
                case measure => simp [intOf]; omega
          · have HOW : Hid (Owns wr w.heap.size (.slice (some ⟨w.heap.size, 0, none⟩) a.length a.length) (bcL a b a.length)) := by
              refine ⟨?_, by rw [bcL_length]; omega, bcL_wf h0.out.wf hu0.out.wf _⟩
              have := hown
              rw [show k = a.length by omega, show backFill a.length a.length (bcL a b a.length) = bcL a b a.length by simp [backFill]] at this
              rw [bcL_length]
              exact this
            have HB0 : Hid (bcBad a b a.length = false) := by simp only [Hid]; rw [show a.length = k by omega]; exact HBAD.out
            have hcc := count_any _ _ _ HOW.out.ints
            have hEE : bcE a b = cntE (bcL a b a.length) := by rw [HEF.out, if_neg (by rw [HB0.out]; decide)]
            by_cases hz : cntE (bcL a b a.length) = 0
            · rw [hz] at hcc hEE
              have HEE := hide hEE
              have HCC := hide hcc
              have HRR : Hid (bcR a b = bcL a b a.length) := by simp [Hid, bcR, hEE, ← HR.out]
              clear hcc hEE hz hown
              go_wp2_with fail
              refine HCC.out.mono ?_
              rintro e w' ⟨rfl, rfl⟩
              go_wp2
              go_ret2
              refine ⟨_, by rw [HEE.out]; rfl, ?_, hw⟩
              rw [HRR.out]
              exact HOW.out
            · have hz' := cntE_neq hz
              have HZ := hide hz
              have HEE := hide hEE
              have HCC := hide hcc
              obtain ⟨E, hE⟩ : ∃ E, E = cntE (bcL a b a.length) := ⟨_, rfl⟩
              rw [← hE] at hz' HZ HEE HCC
              clear hcc hEE hz hE hown
              go_wp2_with fail
              refine HCC.out.mono ?_
              rintro e w' ⟨rfl, rfl⟩
              go_wp2
              go_ret2
              exact ret_bc HEE.out HZ.out hw
    · have HEE : Hid (bcE a b = cntE b) := by simp [Hid, bcE, hE, hF]
      rw [hE] at hca
      have hz' := cntE_neq hF
      have HZ := hide hF
      obtain ⟨E, hEE⟩ : ∃ E, E = cntE b := ⟨_, rfl⟩
      rw [← hEE] at hz' HZ HEE hcb
      clear hE hF hEE
      go_enter Tryz.func174, Tryz.ntmps174
      go_wp2_with fail
      refine hca.out.mono ?_
      rintro e w' ⟨rfl, rfl⟩
      go_wp2_with fail
      refine hcb.out.mono ?_
      rintro e w' ⟨rfl, rfl⟩
      go_wp2
      go_ret2
      exact ret_bc HEE.out HZ.out (grown_refl _)
  · have HEE : Hid (bcE a b = cntE a) := by simp [Hid, bcE, hE]
    have hz' := cntE_neq hE
    have HZ := hide hE
    obtain ⟨E, hEE⟩ : ∃ E, E = cntE a := ⟨_, rfl⟩
    rw [← hEE] at hz' HZ HEE hca
    clear hE hEE
    go_enter Tryz.func174, Tryz.ntmps174
    go_wp2_with fail
    refine hca.out.mono ?_
    rintro e w' ⟨rfl, rfl⟩
    go_wp2
    go_ret2
    exact ret_bc HEE.out HZ.out (grown_refl _)

end Go.Proofs.YtdcbjikjeicgbaaGreatDoor
