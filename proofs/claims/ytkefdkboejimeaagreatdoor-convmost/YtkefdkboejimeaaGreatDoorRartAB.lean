/- Joined texts: SMem, SCount, SSame, SCopy, SStr, SBc, ILists, VwBase, VwPlc, VwPlcAt. -/
import Derived.Test.YtkefdkboejimeaaGreatDoorRartAA
import Derived.Test.YtkefdkboejimeaaGreatDoorRows
import Derived.WalkKit
import Derived.WalkSpells
import Derived.Laws.AppendOwnNone
namespace Go.Proofs.YtkefdkboejimeaaGreatDoor

open Go.RowKit

theorem hide {p : Prop} (h : p) : Hid p := h

def IsInts (w : World) (v : Value) (zs : List Int) : Prop :=
  ∃ ao cap, v = .slice ao zs.length cap ∧ zs.length ≤ cap ∧ cap ≤ 9223372036854775807 ∧ zs.length * 8 ≤ 140737488351232 ∧ (ao = none → zs = [] ∧ cap = 0) ∧
    (0 < zs.length → ∃ b off, ao = some ⟨b, off, none⟩ ∧ ∀ t, t < zs.length → w.cell? ⟨b, off + t, none⟩ = some (.int .i64 (zs.getD t 0))) ∧
    (∀ z ∈ zs, -9223372036854775808 ≤ z ∧ z ≤ 9223372036854775807)

theorem IsInts.le {w : World} {v : Value} {zs : List Int} (h : IsInts w v zs) : zs.length * 8 ≤ 140737488351232 := by
  obtain ⟨_, _, _, _, _, h, _⟩ := h; exact h
theorem IsInts.wf {w : World} {v : Value} {zs : List Int} (h : IsInts w v zs) : ∀ z ∈ zs, -9223372036854775808 ≤ z ∧ z ≤ 9223372036854775807 := by
  obtain ⟨_, _, _, _, _, _, _, _, h⟩ := h; exact h

theorem IsInts.kept {w w' : World} {v : Value} {zs : List Int} (h : IsInts w v zs) (hk : ∀ b, b < w.heap.size → v.ownBlock = some b → w'.heap[b]? = w.heap[b]?) : IsInts w' v zs := by
  obtain ⟨ao, cap, rfl, h1, h2, h3, h4, h5, h6⟩ := h
  refine ⟨ao, cap, rfl, h1, h2, h3, h4, fun hl => ?_, h6⟩
  obtain ⟨b, off, rfl, hc⟩ := h5 hl
  refine ⟨b, off, rfl, fun t ht => ?_⟩
  have hb : b < w.heap.size := World.block_lt_of_cell? w _ (hc t ht)
  rw [← hc t ht]
  exact World.cell?_of_block (hk b hb rfl)

theorem IsInts.grown {w w' : World} {v : Value} {zs : List Int} (h : IsInts w v zs) {row : Option Nat} (hg : w.grownBy w' row) (hne : v.ownBlock = none ∨ v.ownBlock ≠ row) : IsInts w' v zs :=
  h.kept fun b hb hv => hg.block b hb (by rcases hne with h0 | h0 <;> simp_all)

theorem IsInts.more {w w' : World} {v : Value} {zs : List Int} (h : IsInts w v zs) (hg : w.grownBy w' none) : IsInts w' v zs :=
  h.kept fun b hb _ => hg.block b hb (by simp)

def Owns (w : World) (base : Nat) (v : Value) (zs : List Int) : Prop :=
  w.ownsRow base 3 1 v zs.length (zs.map (Value.int .i64)) ∧ zs.length * 8 ≤ 140737488351232 ∧ (∀ z ∈ zs, -9223372036854775808 ≤ z ∧ z ≤ 9223372036854775807)

theorem Owns.ints {w : World} {base : Nat} {v : Value} {zs : List Int} (h : Owns w base v zs) : IsInts w v zs := by
  obtain ⟨hr, hle, hwf⟩ := h
  have hr0 := hr
  rcases hr.2 with ⟨rfl, h0⟩ | ⟨g, cap, cur, rfl, _, _, hnc, hcm, _, _⟩
  · obtain rfl : zs = [] := List.length_eq_zero_iff.1 h0
    exact ⟨none, 0, rfl, by simp, by simp, by simp, fun _ => ⟨rfl, rfl⟩, fun h => by simp at h, fun z hz => by simp at hz⟩
  · refine ⟨_, cap, rfl, hnc, by simpa [maxLen] using hcm, hle, (fun h => by cases h), fun _ => ⟨g, 0, rfl, fun t ht => ?_⟩, hwf⟩
    rw [Nat.zero_add, hr0.cellAt t (by omega)]
    simp [List.getD, ht]

theorem Owns.more {w w' : World} {base : Nat} {v : Value} {zs : List Int} (h : Owns w base v zs) {row : Option Nat} (hg : w.grownBy w' row) (hne : v.ownBlock = none ∨ v.ownBlock ≠ row) : Owns w' base v zs :=
  ⟨h.1.kept hg hne, h.2⟩

theorem Owns.new {w w' : World} {base : Nat} {v : Value} {zs : List Int} (h : Owns w base v zs) (hg : w.grownBy w' none) : Owns w' base v zs :=
  h.more hg (by cases v.ownBlock <;> simp)

theorem Owns.base_le {w : World} {base b' : Nat} {v : Value} {zs : List Int} (h : Owns w base v zs) (hb : b' ≤ base) : Owns w b' v zs := by
  refine ⟨⟨h.1.1, ?_⟩, h.2⟩
  rcases h.1.2 with h0 | ⟨g, cap, cur, e, hg, r⟩
  · exact .inl h0
  · exact .inr ⟨g, cap, cur, e, by omega, r⟩

theorem grown_trans {a b c : World} (h : a.grownBy b none) (k : b.grownBy c none) : a.grownBy c none :=
  ⟨k.os.trans h.os, k.tape.trans h.tape, k.output.trans h.output, Nat.le_trans h.size k.size, fun i hi _ => (k.block i (Nat.lt_of_lt_of_le hi h.size) (by simp)).trans (h.block i hi (by simp))⟩

theorem grown_trans_row {a b c : World} (h : a.grownBy b none) {row : Option Nat} (k : b.grownBy c row) (hr : ∀ g, row = some g → a.heap.size ≤ g) : a.grownBy c none :=
  ⟨k.os.trans h.os, k.tape.trans h.tape, k.output.trans h.output, Nat.le_trans h.size k.size, fun i hi _ => (k.block i (Nat.lt_of_lt_of_le hi h.size) (fun e => by have := hr i e.symm; omega)).trans (h.block i hi (by simp))⟩

theorem grown_drew {a b : World} (h : a.grownBy b none) : a.grownBy b.drew none := ⟨h.os, h.tape, h.output, h.size, h.block⟩
theorem grown_refl (a : World) : a.grownBy a none := World.grownBy.refl a none
theorem grown_new (a : World) (o : Obj) : a.grownBy (a.alloc o) none := World.grownBy_alloc a o none
theorem grown_below {W w : World} (h : W.grownBy w none) : Below W.heap.size W w := ⟨h.os, h.tape, h.output, h.size, fun k hk => h.block k hk (by simp)⟩

theorem Owns.lt {w : World} {base : Nat} {v : Value} {zs : List Int} (h : Owns w base v zs) : ∀ k, v.ownBlock = some k → base ≤ k ∧ k < w.heap.size := h.1.lt

theorem ints_lt {w : World} {v : Value} {zs : List Int} (h : IsInts w v zs) (hz : zs ≠ []) : ∀ k, v.ownBlock = some k → k < w.heap.size := by
  obtain ⟨ao, cap, rfl, _, _, _, _, h5, _⟩ := h
  have hl : 0 < zs.length := by cases zs <;> simp_all
  obtain ⟨b, off, rfl, hc⟩ := h5 hl
  intro k hk
  simp only [Value.ownBlock, Option.some.injEq] at hk
  subst hk
  exact World.block_lt_of_cell? w _ (hc 0 hl)

end Go.Proofs.YtkefdkboejimeaaGreatDoor

namespace Go.Proofs.YtkefdkboejimeaaGreatDoor

open Go.RowKit

def bh (zs : List Int) (i : Nat) : Int := if zs.length ≤ i then 1 else zs.getD (zs.length - 1 - i) 0

theorem behind_any (v : Value) (zs : List Int) (i : Nat) (w : World) (h : IsInts w v zs) (hi : i ≤ 1000000000000) :
    Calls Tryz.prog 109 #[v, .int .i64 i] w fun e w' => e = .returned (.int .i64 (bh zs i)) ∧ w = w' := by
  obtain ⟨ao, cap, rfl, h1, h2, h3, h4, h5, h6⟩ := h
  by_cases hl : zs.length ≤ i
  · have hb : bh zs i = 1 := by simp [bh, hl]
    rw [hb]
    clear h4 h5 h6 hb
    go_enter Tryz.func109, Tryz.ntmps109
    go_wp2
    go_ret
    exact ⟨rfl, rfl⟩
  · obtain ⟨b, off, rfl, hc⟩ := h5 (by omega)
    have hb : bh zs i = zs.getD (zs.length - 1 - i) 0 := by simp [bh, hl]
    have hcell : w.cell? ⟨b, off + (zs.length - 1 - i), none⟩ = some (.int .i64 (bh zs i)) := by rw [hb]; exact hc _ (by omega)
    clear h4 h5 h6 hb hc
    go_enter Tryz.func109, Tryz.ntmps109
    go_wp2
    go_ret
    exact ⟨rfl, rfl⟩

theorem exists_low {zs : List Int} {k : Nat} (hk : k < zs.length) {z : Int} (hz : z = zs.getD k 0) (h : z < 1) : ∃ z ∈ zs, z < 1 :=
  ⟨zs.getD k 0, by simp [List.getD, hk], by omega⟩

theorem all_of {zs : List Int} {p : Int → Prop} (h : ∀ t, t < zs.length → p (zs.getD t 0)) : ∀ z ∈ zs, p z := by
  intro z hz
  obtain ⟨t, ht, rfl⟩ := List.mem_iff_getElem.1 hz
  have := h t ht
  simpa [List.getD, ht] using this

theorem beq_zero_false {E : Int} (h : ¬ E = 0) : (E == 0) = false := by simpa using h
theorem lt_succ_cases {k t : Nat} (h : t < k + 1) : t < k ∨ t = k := by omega

theorem ret_err {zs : List Int} {e : Int} (h : cntE zs = e) (he : e ≠ 0) : Ending.returned (.tuple #[.int .i64 0, .int .i64 e]) = Ending.returned (.tuple #[.int .i64 (cnt zs), .int .i64 (cntE zs)]) := by
  rw [h, cnt_err (by rw [h]; exact he)]

theorem bh_in {zs : List Int} {k : Nat} (hk : k < zs.length) : bh zs k = zs.getD (zs.length - 1 - k) 0 := by
  unfold bh; rw [if_neg (by omega)]

theorem back_step {zs : List Int} {k : Nat} (hk : k < zs.length) : prod (zs.drop (zs.length - (k + 1))) = prod (zs.drop (zs.length - k)) * bh zs k := by
  rw [prod_drop_step zs (zs.length - (k + 1)) (by omega), bh_in hk, Int.mul_comm, show zs.length - (k + 1) + 1 = zs.length - k by omega, show zs.length - (k + 1) = zs.length - 1 - k by omega]

theorem bh_pos {zs : List Int} {k : Nat} (h : ∀ z ∈ zs, 1 ≤ z) : 1 ≤ bh zs k := by
  unfold bh
  split
  · omega
  · exact h _ (by rw [List.getD, List.getElem?_eq_getElem (by omega)]; simp)

theorem div_test {p d : Int} (hp : 1 ≤ p) : 65536 / p < d ↔ 65536 < p * d := by
  rw [Int.ediv_lt_iff_lt_mul (by omega), Int.mul_comm]

theorem count_any (v : Value) (zs : List Int) (w : World) (h : IsInts w v zs) :
    Calls Tryz.prog 68 #[v] w fun e w' => e = .returned (.tuple #[.int .i64 (cnt zs), .int .i64 (cntE zs)]) ∧ w = w' := by
  have h0 := h
  obtain ⟨ao, cap, rfl, h1, h2, h3, h4, h5, h6⟩ := h
  go_enter Tryz.func68, Tryz.ntmps68
  go_wp2
  go_loopw [11] (fun i wr => wr = w ∧ ∃ k : Nat, k ≤ zs.length ∧ i = .int .i64 k ∧ ∀ t, t < k → 1 ≤ zs.getD t 0) (fun i _ => zs.length - (intOf i).toNat)
  case atStart => exact ⟨rfl, 0, Nat.zero_le _, rfl, fun t h => absurd h (by omega)⟩
  case round =>
    obtain ⟨hw, k, hk, rfl, hp⟩ := hrel
    subst hw
    have HP : Hid (∀ t, t < k → 1 ≤ zs.getD t 0) := hp
    clear hp
    by_cases hkl : k < zs.length
    · obtain ⟨b, off, rfl, hc⟩ := h5 (by omega)
      obtain ⟨z, hz⟩ : ∃ z, z = zs.getD k 0 := ⟨_, rfl⟩
      have hcell := hc k hkl
      rw [← hz] at hcell
      have HZ : Hid (z = zs.getD k 0) := hz
      clear hz hc
      by_cases hz1 : z < 1
      · have HE : Hid (cntE zs = 4) := cntE_low (exists_low hkl HZ.out hz1)
        go_wp2
        go_ret2
        exact ⟨ret_err HE.out (by decide), rfl⟩
      · go_wp2
        go_roundw
        case rel =>
          refine ⟨by trivial, k + 1, by omega, by go_num, fun t ht => ?_⟩
          rcases lt_succ_cases ht with h | rfl
          · exact HP.out t h
          · have := HZ.out; omega
        case measure => simp [intOf]; omega
    · have hp : ∀ z ∈ zs, 1 ≤ z := all_of (fun t ht => HP.out t (by omega))
      have hP : Hid (∀ z ∈ zs, 1 ≤ z) := hp
      clear HP hp
      by_cases h7 : 6 < zs.length
      · have HE : Hid (cntE zs = 6) := cntE_many hP.out h7
        go_wp2
        go_ret2
        exact ⟨ret_err HE.out (by decide), rfl⟩
      · go_wp2
        go_loopw [6, 23] (fun n i w' => w' = wr ∧ ∃ k : Nat, k ≤ zs.length ∧ i = .int .i64 k ∧ n = .int .i64 (prod (zs.drop (zs.length - k))) ∧ prod (zs.drop (zs.length - k)) ≤ 65536) (fun _ i _ => zs.length - (intOf i).toNat)
        case atStart => exact ⟨rfl, 0, Nat.zero_le _, rfl, by simp [prod], by simp [prod]⟩
        case round =>
          obtain ⟨hw, j, hj, rfl, hn, hle⟩ := hrel
          subst hw
          have hp1 := prod_pos _ (pos_drop hP.out (zs.length - j))
          obtain ⟨p, hpd⟩ : ∃ p, p = prod (zs.drop (zs.length - j)) := ⟨_, rfl⟩
          rw [← hpd] at hn hle hp1
          subst hn
          have HPD : Hid (p = prod (zs.drop (zs.length - j))) := hpd
          clear hpd
          by_cases hjl : j < zs.length
          · have hb := behind_any _ zs j _ h0 (by omega)
            have hd1 := bh_pos (k := j) hP.out
            have hst := back_step hjl
            rw [← HPD.out] at hst
            obtain ⟨d, hd⟩ : ∃ d, d = bh zs j := ⟨_, rfl⟩
            rw [← hd] at hb hd1 hst
            have HST : Hid (prod (zs.drop (zs.length - (j + 1))) = p * d) := hst
            have HB := hide hb
            clear hst hb hd
            by_cases ht : 65536 / p < d
            · have HE : Hid (cntE zs = 6) := cntE_great hP.out (by
                have h1 := (div_test hp1).1 ht
                have h2 := prod_drop_le hP.out (zs.length - (j + 1))
                rw [HST.out] at h2
                omega)
              go_wp2_with (go_at_call 109; refine (HB.out).mono ?_; rintro e w' ⟨rfl, rfl⟩)
              go_ret2
              exact ⟨ret_err HE.out (by decide), rfl⟩
            · have hle2 : p * d ≤ 65536 := by
                have h1 := mt (div_test hp1).2 ht
                omega
              have hge2 : 0 ≤ p * d := Int.mul_nonneg (by omega) (by omega)
              go_wp2_with (go_at_call 109; refine (HB.out).mono ?_; rintro e w' ⟨rfl, rfl⟩)
              go_roundw
              case rel => exact ⟨by trivial, j + 1, by omega, by go_num, by rw [HST.out], by rw [HST.out]; exact hle2⟩
              case measure => simp [intOf]; omega
          · have HE : Hid (Fine zs) := ⟨hP.out, by omega, by have := HPD.out; rw [show zs.length - j = 0 by omega] at this; simp at this; omega⟩
            have HN : Hid (p = cnt zs) := by show p = cnt zs; rw [HE.out.cnt]; have := HPD.out; rw [show zs.length - j = 0 by omega] at this; simpa using this
            go_wp2
            go_ret2
            exact ⟨by rw [HE.out.ok, ← HN.out]; rfl, rfl⟩

end Go.Proofs.YtkefdkboejimeaaGreatDoor

namespace Go.Proofs.YtkefdkboejimeaaGreatDoor

open Go.RowKit

theorem list_eq_of {a b : List Int} (hl : a.length = b.length) (h : ∀ t, t < a.length → a.getD t 0 = b.getD t 0) : a = b := by
  apply List.ext_getElem hl
  intro t h1 h2
  have := h t h1
  simpa [List.getD, h1, h2] using this

end Go.Proofs.YtkefdkboejimeaaGreatDoor

namespace Go.Proofs.YtkefdkboejimeaaGreatDoor

open Go.RowKit

theorem infoInt : (Tryz.prog.info? 3).map (fun i => (i.zero, i.size, i.bytes)) = some (some (.int .i64 0), 1, 8) := by kernel_rfl

theorem list_cells {w : World} {b off : Nat} {ys : List Int} (hc : ∀ t, t < ys.length → w.cell? ⟨b, off + t, none⟩ = some (.int .i64 (ys.getD t 0))) :
    ∀ j u, (ys.map (Value.int .i64))[j]? = some u → w.cell? ((⟨b, off, none⟩ : Addr).add j) = some u := by
  intro j u hu
  obtain ⟨hj, hv⟩ := List.getElem?_eq_some_iff.1 hu
  have hj' : j < ys.length := by simpa using hj
  rw [Addr.add_lit, hc j hj', ← hv]
  simp [List.getD, hj']

theorem wpList_app {w : World} {ops : Array Oper} {rest : List Oper} {o : Oper} {a : Act} {Q : Exit → Act → World → Prop} (hgd : o.guard = none) (s x : Operand)
    (ho : o.op = .call { callee := .builtin .append, args := #[s, x], argTypes := #[22, 22] })
    (base : Nat) (v : Value) (xs : List Int) (hs : a.eval s = v) (hown : Owns w base v xs) (xv : Value) (ys : List Int) (hx : a.eval x = xv) (hys : IsInts w xv ys)
    (hbytes : (xs.length + ys.length) * 8 ≤ 140737488351232) (hbase : base ≤ w.heap.size)
    (h : ∀ v' w', Owns w' base v' (xs ++ ys) → w.grownBy w' v.ownBlock → wpList Tryz.prog ops Q rest (a.put o.dst v') w') : wpList Tryz.prog ops Q (o :: rest) a w := by
  obtain ⟨i0, hi, hz0, hz1, hz2⟩ := info_parts infoInt
  obtain ⟨ao, cap, rfl, h1, h2, h3, h4, h5, h6⟩ := hys
  cases ao with
  | none =>
    obtain ⟨rfl, rfl⟩ := h4 rfl
    refine wpList_append_own_none hgd s x 22 ho base 3 i0 1 Tryz.underlying22 hi v _ _ hs hown.1 hx ?_
    exact h v w (by simpa using hown) (World.grownBy.refl _ _)
  | some ad =>
    refine wpList_append_own w hgd s x 22 ho base 3 i0 (.int .i64 0) 1 8 Tryz.underlying22 hi hz0 hz1 hz2 rfl (by decide) v _ _ hs hown.1 ad ys.length cap (ys.map (Value.int .i64)) hx (by simp) ?_ (ints_oneCell _ _) (by simp only [maxLen]; omega) (by omega) hbase ?_
    · by_cases hl : 0 < ys.length
      · obtain ⟨b, off, hao, hc⟩ := h5 hl
        obtain rfl := Option.some.inj hao
        exact list_cells hc
      · obtain rfl : ys = [] := List.length_eq_zero_iff.1 (by omega)
        intro j u hu
        simp at hu
    · intro v' w' ho' hg _
      refine h v' w' ⟨by simpa using ho', by simpa using hbytes, fun z hz => ?_⟩ hg
      rcases List.mem_append.1 hz with h | h
      · exact hown.2.2 z h
      · exact h6 z h

theorem owns_nil (w : World) (base : Nat) : Owns w base (.slice none 0 0) [] := ⟨World.ownsRow_nil _ _ _ _, by simp, fun z hz => by simp at hz⟩

end Go.Proofs.YtkefdkboejimeaaGreatDoor

namespace Go.Proofs.YtkefdkboejimeaaGreatDoor

open Go.RowKit

theorem item_at {w : World} {b off cap len : Nat} {zs : List Int} (h : IsInts w (.slice (some ⟨b, off, none⟩) len cap) zs) {k : Nat} (hk : k < zs.length) :
    w.cell? ⟨b, off + k, none⟩ = some (.int .i64 (zs.getD k 0)) := by
  obtain ⟨_, _, he, -, -, -, -, h5, -⟩ := h
  obtain ⟨b', off', ho, hc⟩ := h5 (by omega)
  simp only [Value.slice.injEq] at he
  rw [ho] at he
  simp only [Option.some.injEq, Addr.mk.injEq] at he
  obtain ⟨⟨rfl, rfl, -⟩, -⟩ := he
  exact hc k hk

theorem addr_of {w : World} {ao : Option Addr} {cap len : Nat} {zs : List Int} (h : IsInts w (.slice ao len cap) zs) (hk : 0 < zs.length) : ∃ b off, ao = some ⟨b, off, none⟩ := by
  obtain ⟨_, _, he, -, -, -, -, h5, -⟩ := h
  obtain ⟨b', off', ho, -⟩ := h5 hk
  simp only [Value.slice.injEq] at he
  exact ⟨b', off', by rw [he.1, ho]⟩

end Go.Proofs.YtkefdkboejimeaaGreatDoor

namespace Go.Proofs.YtkefdkboejimeaaGreatDoor

open Go.RowKit

def apartAt (p q : Int) : Bool := !(p == q) && (!(p == 1) && !(q == 1))
def bcL (a b : List Int) : Nat → List Int
  | 0 => []
  | k + 1 => max (bh a k) (bh b k) :: bcL a b k
def bcBad (a b : List Int) : Nat → Bool
  | 0 => false
  | k + 1 => apartAt (bh a k) (bh b k) || bcBad a b k
def rank (a b : List Int) : Nat := max a.length b.length
def bcE (a b : List Int) : Int := if cntE a ≠ 0 then cntE a else if cntE b ≠ 0 then cntE b else if bcBad a b (rank a b) = true then 4 else cntE (bcL a b (rank a b))
def bcR (a b : List Int) : List Int := if bcE a b = 0 then bcL a b (rank a b) else []

end Go.Proofs.YtkefdkboejimeaaGreatDoor

namespace Go.Proofs.YtkefdkboejimeaaGreatDoor

open Go.RowKit

theorem ints_new (w : World) (zs : List Int) (t : TypeId) (hl : zs.length * 8 ≤ 140737488351232) (hz : ∀ z ∈ zs, -9223372036854775808 ≤ z ∧ z ≤ 9223372036854775807) :
    IsInts (w.alloc (.cells (zs.map (Value.int .i64)).toArray t)) (.slice (some ⟨w.heap.size, 0, none⟩) zs.length zs.length) zs := by
  refine ⟨_, _, rfl, Nat.le_refl _, by omega, hl, (fun h => by cases h), fun _ => ⟨_, _, rfl, fun k hk => ?_⟩, hz⟩
  rw [Nat.zero_add, cell_of_row _ _ k _ _ (0, 0) (heap_alloc_new w _)]
  simp [List.getD, hk]

end Go.Proofs.YtkefdkboejimeaaGreatDoor

namespace Go.Proofs.YtkefdkboejimeaaGreatDoor.Vw

open Go.RowKit

def IsView (w : World) (v : Value) (off : Int) (ds ss : List Int) : Prop :=
  ∃ dv sv, v = .agg #[.int .i64 off, dv, sv] ∧ IsInts w dv ds ∧ IsInts w sv ss ∧ -9223372036854775808 ≤ off ∧ off ≤ 9223372036854775807

theorem IsView.more {w w' : World} {v : Value} {off : Int} {ds ss : List Int} (h : IsView w v off ds ss) (hg : w.grownBy w' none) : IsView w' v off ds ss := by
  obtain ⟨dv, sv, rfl, hd, hs, ho⟩ := h
  exact ⟨dv, sv, rfl, hd.more hg, hs.more hg, ho⟩

structure MayV (off : Int) (ds ss : List Int) : Prop where
  fine : Fine ds
  len : ss.length = ds.length
  lo : 0 ≤ off
  hi : off ≤ 65535
  str : ∀ s ∈ ss, 0 ≤ s ∧ s ≤ 65536

end Go.Proofs.YtkefdkboejimeaaGreatDoor.Vw

namespace Go.Proofs.YtkefdkboejimeaaGreatDoor.Vw

theorem flat_length {α : Type} (f : Nat → List α) (n : Nat) : ∀ (t : Nat), (∀ i, i < t → (f i).length = n) → ((List.range t).flatMap f).length = t * n
  | 0, _ => by simp
  | t + 1, h => by
    rw [List.range_succ, List.flatMap_append, List.length_append, flat_length f n t fun i hi => h i (by omega)]
    simp only [List.flatMap_cons, List.flatMap_nil, List.append_nil, h t (by omega)]
    rw [Nat.add_mul, Nat.one_mul]

end Go.Proofs.YtkefdkboejimeaaGreatDoor.Vw

namespace Go.Proofs.YtkefdkboejimeaaGreatDoor.Vw

open Go.RowKit

theorem flat_at (f : Nat → List Int) {n : Nat} (hn : 0 < n) : ∀ (t : Nat), (∀ i, i < t → (f i).length = n) → ∀ j, j < t * n → ((List.range t).flatMap f).getD j 0 = (f (j / n)).getD (j % n) 0
  | 0, _, j, h => by omega
  | t + 1, hl, j, h => by
    have h1 := flat_length f n t fun i hi => hl i (by omega)
    rw [List.range_succ, List.flatMap_append]
    simp only [List.flatMap_cons, List.flatMap_nil, List.append_nil]
    rw [List.getD, List.getElem?_append, h1]
    by_cases hj : j < t * n
    · rw [if_pos hj]
      exact flat_at f hn t (fun i hi => hl i (by omega)) j hj
    · rw [if_neg hj]
      have h2 : j < t * n + n := by rw [Nat.succ_mul] at h; exact h
      obtain ⟨r, rfl⟩ : ∃ r, j = t * n + r := ⟨j - t * n, by omega⟩
      have hr : r < n := by omega
      rw [Nat.mul_comm t n, Nat.mul_add_div hn, Nat.mul_add_mod, Nat.div_eq_of_lt hr, Nat.mod_eq_of_lt hr, Nat.add_zero, Nat.add_sub_cancel_left]
      rfl

end Go.Proofs.YtkefdkboejimeaaGreatDoor.Vw
