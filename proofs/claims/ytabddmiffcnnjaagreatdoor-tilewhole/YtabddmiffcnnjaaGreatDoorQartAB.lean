/- Joined texts: SMem, SCount, SSame, SCopy, SStr. -/
import Derived.Test.YtabddmiffcnnjaaGreatDoorQartAA
import Derived.Test.YtabddmiffcnnjaaGreatDoorRows
import Derived.WalkKit
import Derived.WalkSpells
import Derived.Laws.AppendOwnNone
namespace Go.Proofs.YtabddmiffcnnjaaGreatDoor

open Go.RowKit

theorem hide {p : Prop} (h : p) : Hid p := h

def IsInts (w : World) (v : Value) (zs : List Int) : Prop :=
  ∃ ao cap, v = .slice ao zs.length cap ∧ zs.length ≤ cap ∧ cap ≤ 9223372036854775807 ∧ zs.length * 8 ≤ 140737488351232 ∧ (ao = none → zs = [] ∧ cap = 0) ∧
    (0 < zs.length → ∃ b off, ao = some ⟨b, off, none⟩ ∧ ∀ t, t < zs.length → w.cell? ⟨b, off + t, none⟩ = some (.int .i64 (zs.getD t 0))) ∧
    (∀ z ∈ zs, -9223372036854775808 ≤ z ∧ z ≤ 9223372036854775807)

theorem IsInts.le {w : World} {v : Value} {zs : List Int} (h : IsInts w v zs) : zs.length * 8 ≤ 140737488351232 := by
  obtain ⟨_, _, _, _, _, h, _⟩ := h; exact h
theorem IsInts.wf {w : World} {v : Value} {zs : List Int} (h : IsInts w v zs) : ∀ z ∈ zs, -9223372036854775808 ≤ z ∧ z ≤ 9223372036854775807 := by
  obtain ⟨_, _, _, _, _, _, _, _, h⟩ := h; exact h

theorem IsInts.kept {w w' : World} {v : Value} {zs : List Int} (h : IsInts w v zs) (hk : ∀ b, b < w.heap.size → v.ownBlock = some b → w'.heap[b]? = w.heap[b]?) : IsInts w' v zs := by
  obtain ⟨ao, cap, rfl, h1, h2, h3, h4, h5, h6⟩ := h
  refine ⟨ao, cap, rfl, h1, h2, h3, h4, fun hl => ?_, h6⟩
  obtain ⟨b, off, rfl, hc⟩ := h5 hl
  refine ⟨b, off, rfl, fun t ht => ?_⟩
  have hb : b < w.heap.size := World.block_lt_of_cell? w _ (hc t ht)
  rw [← hc t ht]
  exact World.cell?_of_block (hk b hb rfl)

theorem IsInts.grown {w w' : World} {v : Value} {zs : List Int} (h : IsInts w v zs) {row : Option Nat} (hg : w.grownBy w' row) (hne : v.ownBlock = none ∨ v.ownBlock ≠ row) : IsInts w' v zs :=
  h.kept fun b hb hv => hg.block b hb (by rcases hne with h0 | h0 <;> simp_all)

theorem IsInts.more {w w' : World} {v : Value} {zs : List Int} (h : IsInts w v zs) (hg : w.grownBy w' none) : IsInts w' v zs :=
  h.kept fun b hb _ => hg.block b hb (by simp)

def Owns (w : World) (base : Nat) (v : Value) (zs : List Int) : Prop :=
  w.ownsRow base 3 1 v zs.length (zs.map (Value.int .i64)) ∧ zs.length * 8 ≤ 140737488351232 ∧ (∀ z ∈ zs, -9223372036854775808 ≤ z ∧ z ≤ 9223372036854775807)

theorem Owns.ints {w : World} {base : Nat} {v : Value} {zs : List Int} (h : Owns w base v zs) : IsInts w v zs := by
  obtain ⟨hr, hle, hwf⟩ := h
  have hr0 := hr
  rcases hr.2 with ⟨rfl, h0⟩ | ⟨g, cap, cur, rfl, _, _, hnc, hcm, _, _⟩
  · obtain rfl : zs = [] := List.length_eq_zero_iff.1 h0
    exact ⟨none, 0, rfl, by simp, by simp, by simp, fun _ => ⟨rfl, rfl⟩, fun h => by simp at h, fun z hz => by simp at hz⟩
  · refine ⟨_, cap, rfl, hnc, by simpa [maxLen] using hcm, hle, (fun h => by cases h), fun _ => ⟨g, 0, rfl, fun t ht => ?_⟩, hwf⟩
    rw [Nat.zero_add, hr0.cellAt t (by omega)]
    simp [List.getD, ht]

theorem Owns.more {w w' : World} {base : Nat} {v : Value} {zs : List Int} (h : Owns w base v zs) {row : Option Nat} (hg : w.grownBy w' row) (hne : v.ownBlock = none ∨ v.ownBlock ≠ row) : Owns w' base v zs :=
  ⟨h.1.kept hg hne, h.2⟩

theorem Owns.new {w w' : World} {base : Nat} {v : Value} {zs : List Int} (h : Owns w base v zs) (hg : w.grownBy w' none) : Owns w' base v zs :=
  h.more hg (by cases v.ownBlock <;> simp)

theorem Owns.base_le {w : World} {base b' : Nat} {v : Value} {zs : List Int} (h : Owns w base v zs) (hb : b' ≤ base) : Owns w b' v zs := by
  refine ⟨⟨h.1.1, ?_⟩, h.2⟩
  rcases h.1.2 with h0 | ⟨g, cap, cur, e, hg, r⟩
  · exact .inl h0
  · exact .inr ⟨g, cap, cur, e, by omega, r⟩

theorem grown_trans {a b c : World} (h : a.grownBy b none) (k : b.grownBy c none) : a.grownBy c none :=
  ⟨k.os.trans h.os, k.tape.trans h.tape, k.output.trans h.output, Nat.le_trans h.size k.size, fun i hi _ => (k.block i (Nat.lt_of_lt_of_le hi h.size) (by simp)).trans (h.block i hi (by simp))⟩

theorem grown_trans_row {a b c : World} (h : a.grownBy b none) {row : Option Nat} (k : b.grownBy c row) (hr : ∀ g, row = some g → a.heap.size ≤ g) : a.grownBy c none :=
  ⟨k.os.trans h.os, k.tape.trans h.tape, k.output.trans h.output, Nat.le_trans h.size k.size, fun i hi _ => (k.block i (Nat.lt_of_lt_of_le hi h.size) (fun e => by have := hr i e.symm; omega)).trans (h.block i hi (by simp))⟩

theorem grown_drew {a b : World} (h : a.grownBy b none) : a.grownBy b.drew none := ⟨h.os, h.tape, h.output, h.size, h.block⟩
theorem grown_refl (a : World) : a.grownBy a none := World.grownBy.refl a none
theorem grown_new (a : World) (o : Obj) : a.grownBy (a.alloc o) none := World.grownBy_alloc a o none
theorem grown_below {W w : World} (h : W.grownBy w none) : Below W.heap.size W w := ⟨h.os, h.tape, h.output, h.size, fun k hk => h.block k hk (by simp)⟩

theorem Owns.lt {w : World} {base : Nat} {v : Value} {zs : List Int} (h : Owns w base v zs) : ∀ k, v.ownBlock = some k → base ≤ k ∧ k < w.heap.size := h.1.lt

theorem apart_of {v v' : Value} {a b : Nat} (h : ∀ k, v.ownBlock = some k → k < a) (h' : ∀ k, v'.ownBlock = some k → b ≤ k) (hab : a ≤ b) : v.ownBlock = none ∨ v.ownBlock ≠ v'.ownBlock := by
  cases hv : v.ownBlock with
  | none => exact .inl rfl
  | some k =>
    refine .inr fun e => ?_
    have h1 := h k hv
    have h2 := h' k e.symm
    omega

theorem ints_lt {w : World} {v : Value} {zs : List Int} (h : IsInts w v zs) (hz : zs ≠ []) : ∀ k, v.ownBlock = some k → k < w.heap.size := by
  obtain ⟨ao, cap, rfl, _, _, _, _, h5, _⟩ := h
  have hl : 0 < zs.length := by cases zs <;> simp_all
  obtain ⟨b, off, rfl, hc⟩ := h5 hl
  intro k hk
  simp only [Value.ownBlock, Option.some.injEq] at hk
  subst hk
  exact World.block_lt_of_cell? w _ (hc 0 hl)

end Go.Proofs.YtabddmiffcnnjaaGreatDoor

namespace Go.Proofs.YtabddmiffcnnjaaGreatDoor

open Go.RowKit

def bh (zs : List Int) (i : Nat) : Int := if zs.length ≤ i then 1 else zs.getD (zs.length - 1 - i) 0

theorem behind_any (v : Value) (zs : List Int) (i : Nat) (w : World) (h : IsInts w v zs) (hi : i ≤ 1000000000000) :
    Calls Tryz.prog 17 #[v, .int .i64 i] w fun e w' => e = .returned (.int .i64 (bh zs i)) ∧ w = w' := by
  obtain ⟨ao, cap, rfl, h1, h2, h3, h4, h5, h6⟩ := h
  by_cases hl : zs.length ≤ i
  · have hb : bh zs i = 1 := by simp [bh, hl]
    rw [hb]
    clear h4 h5 h6 hb
    go_enter Tryz.func17, Tryz.ntmps17
    go_wp2
    go_ret
    exact ⟨rfl, rfl⟩
  · obtain ⟨b, off, rfl, hc⟩ := h5 (by omega)
    have hb : bh zs i = zs.getD (zs.length - 1 - i) 0 := by simp [bh, hl]
    have hcell : w.cell? ⟨b, off + (zs.length - 1 - i), none⟩ = some (.int .i64 (bh zs i)) := by rw [hb]; exact hc _ (by omega)
    clear h4 h5 h6 hb hc
    go_enter Tryz.func17, Tryz.ntmps17
    go_wp2
    go_ret
    exact ⟨rfl, rfl⟩

theorem exists_low {zs : List Int} {k : Nat} (hk : k < zs.length) {z : Int} (hz : z = zs.getD k 0) (h : z < 1) : ∃ z ∈ zs, z < 1 :=
  ⟨zs.getD k 0, by simp [List.getD, hk], by omega⟩

theorem all_of {zs : List Int} {p : Int → Prop} (h : ∀ t, t < zs.length → p (zs.getD t 0)) : ∀ z ∈ zs, p z := by
  intro z hz
  obtain ⟨t, ht, rfl⟩ := List.mem_iff_getElem.1 hz
  have := h t ht
  simpa [List.getD, ht] using this

theorem beq_zero_false {E : Int} (h : ¬ E = 0) : (E == 0) = false := by simpa using h
theorem lt_succ_cases {k t : Nat} (h : t < k + 1) : t < k ∨ t = k := by omega

theorem ret_err {zs : List Int} {e : Int} (h : cntE zs = e) (he : e ≠ 0) : Ending.returned (.tuple #[.int .i64 0, .int .i64 e]) = Ending.returned (.tuple #[.int .i64 (cnt zs), .int .i64 (cntE zs)]) := by
  rw [h, cnt_err (by rw [h]; exact he)]

theorem bh_in {zs : List Int} {k : Nat} (hk : k < zs.length) : bh zs k = zs.getD (zs.length - 1 - k) 0 := by
  unfold bh; rw [if_neg (by omega)]

theorem back_step {zs : List Int} {k : Nat} (hk : k < zs.length) : prod (zs.drop (zs.length - (k + 1))) = prod (zs.drop (zs.length - k)) * bh zs k := by
  rw [prod_drop_step zs (zs.length - (k + 1)) (by omega), bh_in hk, Int.mul_comm, show zs.length - (k + 1) + 1 = zs.length - k by omega, show zs.length - (k + 1) = zs.length - 1 - k by omega]

theorem bh_pos {zs : List Int} {k : Nat} (h : ∀ z ∈ zs, 1 ≤ z) : 1 ≤ bh zs k := by
  unfold bh
  split
  · omega
  · exact h _ (by rw [List.getD, List.getElem?_eq_getElem (by omega)]; simp)

theorem div_test {p d : Int} (hp : 1 ≤ p) : 65536 / p < d ↔ 65536 < p * d := by
  rw [Int.ediv_lt_iff_lt_mul (by omega), Int.mul_comm]

theorem count_any (v : Value) (zs : List Int) (w : World) (h : IsInts w v zs) :
    Calls Tryz.prog 11 #[v] w fun e w' => e = .returned (.tuple #[.int .i64 (cnt zs), .int .i64 (cntE zs)]) ∧ w = w' := by
  have h0 := h
  obtain ⟨ao, cap, rfl, h1, h2, h3, h4, h5, h6⟩ := h
  go_enter Tryz.func11, Tryz.ntmps11
  go_wp2
  go_loopw [11] (fun i wr => wr = w ∧ ∃ k : Nat, k ≤ zs.length ∧ i = .int .i64 k ∧ ∀ t, t < k → 1 ≤ zs.getD t 0) (fun i _ => zs.length - (intOf i).toNat)
  case atStart => exact ⟨rfl, 0, Nat.zero_le _, rfl, fun t h => absurd h (by omega)⟩
  case round =>
    obtain ⟨hw, k, hk, rfl, hp⟩ := hrel
    subst hw
    have HP : Hid (∀ t, t < k → 1 ≤ zs.getD t 0) := hp
    clear hp
    by_cases hkl : k < zs.length
    · obtain ⟨b, off, rfl, hc⟩ := h5 (by omega)
      obtain ⟨z, hz⟩ : ∃ z, z = zs.getD k 0 := ⟨_, rfl⟩
      have hcell := hc k hkl
      rw [← hz] at hcell
      have HZ : Hid (z = zs.getD k 0) := hz
      clear hz hc
      by_cases hz1 : z < 1
      · have HE : Hid (cntE zs = 4) := cntE_low (exists_low hkl HZ.out hz1)
        go_wp2
        go_ret2
        exact ⟨ret_err HE.out (by decide), rfl⟩
      · go_wp2
        go_roundw
        case rel =>
          refine ⟨by trivial, k + 1, by omega, by go_num, fun t ht => ?_⟩
          rcases lt_succ_cases ht with h | rfl
          · exact HP.out t h
          · have := HZ.out; omega
        case measure => simp [intOf]; omega
    · have hp : ∀ z ∈ zs, 1 ≤ z := all_of (fun t ht => HP.out t (by omega))
      have hP : Hid (∀ z ∈ zs, 1 ≤ z) := hp
      clear HP hp
      by_cases h7 : 6 < zs.length
      · have HE : Hid (cntE zs = 6) := cntE_many hP.out h7
        go_wp2
        go_ret2
        exact ⟨ret_err HE.out (by decide), rfl⟩
      · go_wp2
        go_loopw [6, 23] (fun n i w' => w' = wr ∧ ∃ k : Nat, k ≤ zs.length ∧ i = .int .i64 k ∧ n = .int .i64 (prod (zs.drop (zs.length - k))) ∧ prod (zs.drop (zs.length - k)) ≤ 65536) (fun _ i _ => zs.length - (intOf i).toNat)
        case atStart => exact ⟨rfl, 0, Nat.zero_le _, rfl, by simp [prod], by simp [prod]⟩
        case round =>
          obtain ⟨hw, j, hj, rfl, hn, hle⟩ := hrel
          subst hw
          have hp1 := prod_pos _ (pos_drop hP.out (zs.length - j))
          obtain ⟨p, hpd⟩ : ∃ p, p = prod (zs.drop (zs.length - j)) := ⟨_, rfl⟩
          rw [← hpd] at hn hle hp1
          subst hn
          have HPD : Hid (p = prod (zs.drop (zs.length - j))) := hpd
          clear hpd
          by_cases hjl : j < zs.length
          · have hb := behind_any _ zs j _ h0 (by omega)
            have hd1 := bh_pos (k := j) hP.out
            have hst := back_step hjl
            rw [← HPD.out] at hst
            obtain ⟨d, hd⟩ : ∃ d, d = bh zs j := ⟨_, rfl⟩
            rw [← hd] at hb hd1 hst
            have HST : Hid (prod (zs.drop (zs.length - (j + 1))) = p * d) := hst
            have HB := hide hb
            clear hst hb hd
            by_cases ht : 65536 / p < d
            · have HE : Hid (cntE zs = 6) := cntE_great hP.out (by
                have h1 := (div_test hp1).1 ht
                have h2 := prod_drop_le hP.out (zs.length - (j + 1))
                rw [HST.out] at h2
                omega)
              go_wp2_with (go_at_call 17; refine (HB.out).mono ?_; rintro e w' ⟨rfl, rfl⟩)
              go_ret2
              exact ⟨ret_err HE.out (by decide), rfl⟩
            · have hle2 : p * d ≤ 65536 := by
                have h1 := mt (div_test hp1).2 ht
                omega
              have hge2 : 0 ≤ p * d := Int.mul_nonneg (by omega) (by omega)
              go_wp2_with (go_at_call 17; refine (HB.out).mono ?_; rintro e w' ⟨rfl, rfl⟩)
              go_roundw
              case rel => exact ⟨by trivial, j + 1, by omega, by go_num, by rw [HST.out], by rw [HST.out]; exact hle2⟩
              case measure => simp [intOf]; omega
          · have HE : Hid (Fine zs) := ⟨hP.out, by omega, by have := HPD.out; rw [show zs.length - j = 0 by omega] at this; simp at this; omega⟩
            have HN : Hid (p = cnt zs) := by show p = cnt zs; rw [HE.out.cnt]; have := HPD.out; rw [show zs.length - j = 0 by omega] at this; simpa using this
            go_wp2
            go_ret2
            exact ⟨by rw [HE.out.ok, ← HN.out]; rfl, rfl⟩

end Go.Proofs.YtabddmiffcnnjaaGreatDoor

namespace Go.Proofs.YtabddmiffcnnjaaGreatDoor

open Go.RowKit

theorem list_eq_of {a b : List Int} (hl : a.length = b.length) (h : ∀ t, t < a.length → a.getD t 0 = b.getD t 0) : a = b := by
  apply List.ext_getElem hl
  intro t h1 h2
  have := h t h1
  simpa [List.getD, h1, h2] using this

end Go.Proofs.YtabddmiffcnnjaaGreatDoor

namespace Go.Proofs.YtabddmiffcnnjaaGreatDoor

open Go.RowKit

theorem infoInt : (Tryz.prog.info? 3).map (fun i => (i.zero, i.size, i.bytes)) = some (some (.int .i64 0), 1, 8) := by kernel_rfl

theorem list_cells {w : World} {b off : Nat} {ys : List Int} (hc : ∀ t, t < ys.length → w.cell? ⟨b, off + t, none⟩ = some (.int .i64 (ys.getD t 0))) :
    ∀ j u, (ys.map (Value.int .i64))[j]? = some u → w.cell? ((⟨b, off, none⟩ : Addr).add j) = some u := by
  intro j u hu
  obtain ⟨hj, hv⟩ := List.getElem?_eq_some_iff.1 hu
  have hj' : j < ys.length := by simpa using hj
  rw [Addr.add_lit, hc j hj', ← hv]
  simp [List.getD, hj']

theorem wpList_app {w : World} {ops : Array Oper} {rest : List Oper} {o : Oper} {a : Act} {Q : Exit → Act → World → Prop} (hgd : o.guard = none) (s x : Operand)
    (ho : o.op = .call { callee := .builtin .append, args := #[s, x], argTypes := #[35, 35] })
    (base : Nat) (v : Value) (xs : List Int) (hs : a.eval s = v) (hown : Owns w base v xs) (xv : Value) (ys : List Int) (hx : a.eval x = xv) (hys : IsInts w xv ys)
    (hbytes : (xs.length + ys.length) * 8 ≤ 140737488351232) (hbase : base ≤ w.heap.size)
    (h : ∀ v' w', Owns w' base v' (xs ++ ys) → w.grownBy w' v.ownBlock → wpList Tryz.prog ops Q rest (a.put o.dst v') w') : wpList Tryz.prog ops Q (o :: rest) a w := by
  obtain ⟨i0, hi, hz0, hz1, hz2⟩ := info_parts infoInt
  obtain ⟨ao, cap, rfl, h1, h2, h3, h4, h5, h6⟩ := hys
  cases ao with
  | none =>
    obtain ⟨rfl, rfl⟩ := h4 rfl
    refine wpList_append_own_none hgd s x 35 ho base 3 i0 1 Tryz.underlying35 hi v _ _ hs hown.1 hx ?_
    exact h v w (by simpa using hown) (World.grownBy.refl _ _)
  | some ad =>
    refine wpList_append_own w hgd s x 35 ho base 3 i0 (.int .i64 0) 1 8 Tryz.underlying35 hi hz0 hz1 hz2 rfl (by decide) v _ _ hs hown.1 ad ys.length cap (ys.map (Value.int .i64)) hx (by simp) ?_ (ints_oneCell _ _) (by simp only [maxLen]; omega) (by omega) hbase ?_
    · by_cases hl : 0 < ys.length
      · obtain ⟨b, off, hao, hc⟩ := h5 hl
        obtain rfl := Option.some.inj hao
        exact list_cells hc
      · obtain rfl : ys = [] := List.length_eq_zero_iff.1 (by omega)
        intro j u hu
        simp at hu
    · intro v' w' ho' hg _
      refine h v' w' ⟨by simpa using ho', by simpa using hbytes, fun z hz => ?_⟩ hg
      rcases List.mem_append.1 hz with h | h
      · exact hown.2.2 z h
      · exact h6 z h

theorem owns_nil (w : World) (base : Nat) : Owns w base (.slice none 0 0) [] := ⟨World.ownsRow_nil _ _ _ _, by simp, fun z hz => by simp at hz⟩

theorem grown_trans_same {a b c : World} {row : Option Nat} (h : a.grownBy b row) (k : b.grownBy c row) : a.grownBy c row :=
  ⟨k.os.trans h.os, k.tape.trans h.tape, k.output.trans h.output, Nat.le_trans h.size k.size, fun i hi hn => (k.block i (Nat.lt_of_lt_of_le hi h.size) hn).trans (h.block i hi hn)⟩

end Go.Proofs.YtabddmiffcnnjaaGreatDoor

namespace Go.Proofs.YtabddmiffcnnjaaGreatDoor

open Go.RowKit

def backFill (n k : Nat) (l : List Int) : List Int := List.replicate (n - k) 0 ++ l

theorem backFill_step {n k : Nat} (hk : k < n) (l : List Int) (z : Int) : (backFill n k l).set (n - 1 - k) z = backFill n (k + 1) (z :: l) := by
  unfold backFill
  have e : List.replicate (n - k) (0 : Int) = List.replicate (n - (k + 1)) 0 ++ [0] := by
    rw [show n - k = (n - (k + 1)) + 1 by omega, List.replicate_succ']
  rw [e, show n - 1 - k = n - (k + 1) by omega, List.append_assoc, List.set_append_right _ _ (by simp)]
  simp

theorem strd_back {zs : List Int} {k : Nat} (hk : k < zs.length) : strd (zs.drop (zs.length - (k + 1))) = prod (zs.drop (zs.length - k)) :: strd (zs.drop (zs.length - k)) := by
  rw [drop_step zs (zs.length - (k + 1)) (by omega), show zs.length - (k + 1) + 1 = zs.length - k by omega]
  rfl

theorem back_mul {zs : List Int} {k : Nat} (hk : k < zs.length) : prod (zs.drop (zs.length - (k + 1))) = prod (zs.drop (zs.length - k)) * zs.getD (zs.length - 1 - k) 0 := by
  rw [back_step hk, bh_in hk]

theorem map_set_int (l : List Int) (i : Nat) (z : Int) : (l.map (Value.int .i64)).set i (.int .i64 z) = (l.set i z).map (Value.int .i64) := by
  rw [List.map_set]

theorem made_zeros (n : Nat) : (madeCells (Value.int .i64 0).cells (n * 1)).toList = (List.replicate n (0 : Int)).map (Value.int .i64) := by
  rw [Nat.mul_one, show (Value.int .i64 0).cells = #[Value.int .i64 0] from rfl, toList_madeCells_one]
  simp

theorem strd_le {zs : List Int} (h : Fine zs) : ∀ s ∈ strd zs, 1 ≤ s ∧ s ≤ 65536 := by
  induction zs with
  | nil => intro s hs; simp [strd] at hs
  | cons z zs ih =>
    intro s hs
    have hd : Fine zs := by have := h.drop 1; simpa using this
    rcases List.mem_cons.1 hs with rfl | hs
    · exact ⟨hd.prod_pos, hd.le⟩
    · exact ih hd s hs

theorem fill_step {w wr : World} {n k : Nat} {l : List Int} {z : Int} (hk : k < n) (hw : w.grownBy wr none)
    (hown : wr.ownsRow w.heap.size 3 1 (.slice (some ⟨w.heap.size, 0, none⟩) n n) n ((backFill n k l).map (Value.int .i64))) :
    (∃ c, wr.cell? ⟨w.heap.size, n - 1 - k, none⟩ = some c) ∧ wr.frozen? ⟨w.heap.size, n - 1 - k, none⟩ = false ∧
    (wr.setCell ⟨w.heap.size, n - 1 - k, none⟩ (.int .i64 z)).ownsRow w.heap.size 3 1 (.slice (some ⟨w.heap.size, 0, none⟩) n n) n ((backFill n (k + 1) (z :: l)).map (Value.int .i64)) ∧
    w.grownBy (wr.setCell ⟨w.heap.size, n - 1 - k, none⟩ (.int .i64 z)) none := by
  have hl := hown.1
  refine ⟨⟨_, by rw [hown.cellAt (n - 1 - k) (by omega), List.getElem?_eq_getElem (by omega)]⟩, hown.frozenAt _, ?_, grown_trans_row hw (hown.stored (n - 1 - k) (.int .i64 z)).2 (fun g hg => by injection hg with hg; omega)⟩
  have := (hown.stored (n - 1 - k) (.int .i64 z)).1
  rw [map_set_int, backFill_step hk] at this
  exact this

theorem item_at {w : World} {b off cap len : Nat} {zs : List Int} (h : IsInts w (.slice (some ⟨b, off, none⟩) len cap) zs) {k : Nat} (hk : k < zs.length) :
    w.cell? ⟨b, off + k, none⟩ = some (.int .i64 (zs.getD k 0)) := by
  obtain ⟨_, _, he, -, -, -, -, h5, -⟩ := h
  obtain ⟨b', off', ho, hc⟩ := h5 (by omega)
  simp only [Value.slice.injEq] at he
  rw [ho] at he
  simp only [Option.some.injEq, Addr.mk.injEq] at he
  obtain ⟨⟨rfl, rfl, -⟩, -⟩ := he
  exact hc k hk

theorem addr_of {w : World} {ao : Option Addr} {cap len : Nat} {zs : List Int} (h : IsInts w (.slice ao len cap) zs) (hk : 0 < zs.length) : ∃ b off, ao = some ⟨b, off, none⟩ := by
  obtain ⟨_, _, he, -, -, -, -, h5, -⟩ := h
  obtain ⟨b', off', ho, -⟩ := h5 hk
  simp only [Value.slice.injEq] at he
  exact ⟨b', off', by rw [he.1, ho]⟩

theorem block_lt {w : World} {b off cap len : Nat} {zs : List Int} (h : IsInts w (.slice (some ⟨b, off, none⟩) len cap) zs) (hk : 0 < zs.length) : b < w.heap.size :=
  World.block_lt_of_cell? w _ (item_at h hk)

def strdE (zs : List Int) : List Int := if cntE zs = 0 then strd zs else []

set_option maxHeartbeats 400000 in
theorem strides_any (v : Value) (zs : List Int) (w : World) (h : IsInts w v zs) :
    Calls Tryz.prog 102 #[v] w fun e w' => ∃ u, e = .returned (.tuple #[u, .int .i64 (cntE zs)]) ∧ Owns w' w.heap.size u (strdE zs) ∧ w.grownBy w' none := by
  obtain ⟨i0, hi, hz0, hz1, hz2⟩ := info_parts infoInt
  have hcount := hide (count_any v zs w h)
  have h0 := hide h
  obtain ⟨ao, cap, rfl, h1, h2, h3, -, -, -⟩ := h
  rcases cntE_cases zs with hE | hE | hE
  · have HF := hide (fine_of hE)
    have HE := hide hE
    rw [hE] at hcount
    rw [show strdE zs = strd zs by simp [strdE, hE], hE]
    clear hE
    have hb2 : i0.bytes * zs.length ≤ 281474976710656 := by rw [hz2]; omega
    have hb3 : zs.length ≤ maxLen := by simp only [maxLen]; omega
    go_enter Tryz.func102, Tryz.ntmps102
    go_wp2_with (first | (go_at_call 11; refine hcount.out.mono ?_; rintro e w' ⟨rfl, rfl⟩) | (refine wpList_make_full _ rfl (.tmp 19) (.tmp 19) 35 rfl w.heap.size 3 i0 (.int .i64 0) 1 Tryz.underlying35 hi hz0 hz1 .i64 .i64 _ _ zs.length rfl rfl rfl rfl hb2 hb3 (Nat.le_refl _) ?_; intro w1 hown hgrow))
    rw [made_zeros] at hown
    go_loopw [7, 23] (fun n i wr => w.grownBy wr none ∧ ∃ k : Nat, k ≤ zs.length ∧ i = .int .i64 k ∧ n = .int .i64 (prod (zs.drop (zs.length - k))) ∧
      wr.ownsRow w.heap.size 3 1 (.slice (some ⟨w.heap.size, 0, none⟩) zs.length zs.length) zs.length ((backFill zs.length k (strd (zs.drop (zs.length - k)))).map (Value.int .i64))) (fun _ i _ => zs.length - (intOf i).toNat)
    case atStart => exact ⟨hgrow, 0, Nat.zero_le _, rfl, by simp [prod], by simpa [backFill, strd] using hown⟩
    case round =>
      clear hown hgrow
      obtain ⟨hw, k, hk, rfl, hn, hown⟩ := hrel
      have hd := HF.out.drop (zs.length - k)
      have hp1 := hd.prod_pos
      have hp2 := hd.le
      obtain ⟨p, hpd⟩ : ∃ p, p = prod (zs.drop (zs.length - k)) := ⟨_, rfl⟩
      rw [← hpd] at hn hp1 hp2
      subst hn
      have HPD := hide hpd
      clear hpd hd
      by_cases hkl : k < zs.length
      · obtain ⟨b, off, rfl⟩ := addr_of h0.out (by omega)
        have hb := block_lt h0.out (by omega)
        have hcell := item_at (h0.out.more hw) (k := zs.length - 1 - k) (by omega)
        obtain ⟨⟨c, hc⟩, hf, hown2, hw2⟩ := fill_step (z := p) hkl hw hown
        have hmul := back_mul hkl
        rw [← HPD.out] at hmul
        have hdl := (HF.out.drop (zs.length - (k + 1))).le
        rw [hmul] at hdl
        have hd1 := HF.out.at (zs.length - 1 - k) (by omega)
        obtain ⟨d, hd⟩ : ∃ d, d = zs.getD (zs.length - 1 - k) 0 := ⟨_, rfl⟩
        rw [← hd] at hcell hmul hdl hd1
        have hpd0 : 0 ≤ p * d := Int.mul_nonneg (by omega) (by omega)
        have HM := hide hmul
        have HO := hide hown2
        have HW := hide hw2
        clear hd hmul hown hown2 hw2 hw
        go_wp2
        go_roundw
        case rel =>
          refine ⟨HW.out, k + 1, by omega, by go_num, by rw [HM.out], ?_⟩
          rw [strd_back hkl, ← HPD.out]
          exact HO.out
        case measure => simp [intOf]; omega
      · have HO := hide hown
        clear hown
        go_wp2
        go_ret2
        refine ⟨_, rfl, ⟨?_, ?_, ?_⟩, hw⟩
        · have := HO.out
          rw [show zs.length - k = 0 by omega, show backFill zs.length k (strd (zs.drop 0)) = strd zs by simp [backFill, show zs.length - k = 0 by omega]] at this
          rw [strd_length]
          exact this
        · rw [strd_length]; omega
        · intro s hs
          have := strd_le HF.out s hs
          omega
  all_goals
    have HE := hide hE
    rw [hE] at hcount
    rw [show strdE zs = [] by simp [strdE, hE], hE]
    clear hE
    go_enter Tryz.func102, Tryz.ntmps102
    go_wp2_with (go_at_call 11; refine hcount.out.mono ?_; rintro e w' ⟨rfl, rfl⟩)
    go_ret2
    exact ⟨_, rfl, owns_nil _ _, grown_refl _⟩

end Go.Proofs.YtabddmiffcnnjaaGreatDoor
