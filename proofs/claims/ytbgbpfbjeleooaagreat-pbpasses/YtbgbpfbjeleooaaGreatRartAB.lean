/- A part. -/
import Derived.Test.YtbgbpfbjeleooaaGreatRartAA
import Derived.Test.YtbgbpfbjeleooaaGreatRows
import Derived.WalkKit
import Derived.WalkSpells
import Derived.Laws.AppendOwnNone
namespace Go.Proofs.YtbgbpfbjeleooaaGreat
open Go.RowKit
theorem jac {p : Prop} (h : p) : Hid p := h
def jaw (w : World) (v : Value) (zs : List Int) : Prop :=
 ∃ ao cap, v = .slice ao zs.length cap ∧ zs.length ≤ cap ∧ cap ≤ 9223372036854775807 ∧ zs.length * 8 ≤ 140737488351232 ∧ (ao = none → zs = [] ∧ cap = 0) ∧
  (0 < zs.length → ∃ b off, ao = some ⟨b, off, none⟩ ∧ ∀ t, t < zs.length → w.cell? ⟨b, off + t, none⟩ = some (.int .i64 (zs.getD t 0))) ∧
  (∀ z ∈ zs, -9223372036854775808 ≤ z ∧ z ≤ 9223372036854775807)
theorem jaw.le {w : World} {v : Value} {zs : List Int} (h : jaw w v zs) : zs.length * 8 ≤ 140737488351232 := by
 obtain ⟨_, _, _, _, _, h, _⟩ := h; exact h
theorem jaw.wf {w : World} {v : Value} {zs : List Int} (h : jaw w v zs) : ∀ z ∈ zs, -9223372036854775808 ≤ z ∧ z ≤ 9223372036854775807 := by
 obtain ⟨_, _, _, _, _, _, _, _, h⟩ := h; exact h
theorem jaw.kept {w w' : World} {v : Value} {zs : List Int} (h : jaw w v zs) (hk : ∀ b, b < w.heap.size → v.ownBlock = some b → w'.heap[b]? = w.heap[b]?) : jaw w' v zs := by
 obtain ⟨ao, cap, rfl, h1, h2, h3, h4, h5, h6⟩ := h
 refine ⟨ao, cap, rfl, h1, h2, h3, h4, fun hl => ?_, h6⟩
 obtain ⟨b, off, rfl, hc⟩ := h5 hl
 refine ⟨b, off, rfl, fun t ht => ?_⟩
 have hb : b < w.heap.size := World.block_lt_of_cell? w _ (hc t ht)
 rw [← hc t ht]
 exact World.cell?_of_block (hk b hb rfl)
theorem jaw.grown {w w' : World} {v : Value} {zs : List Int} (h : jaw w v zs) {row : Option Nat} (hg : w.grownBy w' row) (hne : v.ownBlock = none ∨ v.ownBlock ≠ row) : jaw w' v zs :=
 h.kept fun b hb hv => hg.block b hb (by rcases hne with h0 | h0 <;> simp_all)
theorem jaw.more {w w' : World} {v : Value} {zs : List Int} (h : jaw w v zs) (hg : w.grownBy w' none) : jaw w' v zs :=
 h.kept fun b hb _ => hg.block b hb (by simp)
def jdZ (w : World) (base : Nat) (v : Value) (zs : List Int) : Prop :=
 w.ownsRow base 3 1 v zs.length (zs.map (Value.int .i64)) ∧ zs.length * 8 ≤ 140737488351232 ∧ (∀ z ∈ zs, -9223372036854775808 ≤ z ∧ z ≤ 9223372036854775807)
theorem jdZ.ints {w : World} {base : Nat} {v : Value} {zs : List Int} (h : jdZ w base v zs) : jaw w v zs := by
 obtain ⟨hr, hle, hwf⟩ := h
 have hr0 := hr
 rcases hr.2 with ⟨rfl, h0⟩ | ⟨g, cap, cur, rfl, _, _, hnc, hcm, _, _⟩
 ·obtain rfl : zs = [] := List.length_eq_zero_iff.1 h0
  exact ⟨none, 0, rfl, by simp, by simp, by simp, fun _ => ⟨rfl, rfl⟩, fun h => by simp at h, fun z hz => by simp at hz⟩
 ·refine ⟨_, cap, rfl, hnc, by simpa [maxLen] using hcm, hle, (fun h => by cases h), fun _ => ⟨g, 0, rfl, fun t ht => ?_⟩, hwf⟩
  rw [Nat.zero_add, hr0.cellAt t (by omega)]
  simp [List.getD, ht]
theorem jdZ.more {w w' : World} {base : Nat} {v : Value} {zs : List Int} (h : jdZ w base v zs) {row : Option Nat} (hg : w.grownBy w' row) (hne : v.ownBlock = none ∨ v.ownBlock ≠ row) : jdZ w' base v zs :=
 ⟨h.1.kept hg hne, h.2⟩
theorem jdZ.new {w w' : World} {base : Nat} {v : Value} {zs : List Int} (h : jdZ w base v zs) (hg : w.grownBy w' none) : jdZ w' base v zs :=
 h.more hg (by cases v.ownBlock <;> simp)
theorem jdZ.base_le {w : World} {base b' : Nat} {v : Value} {zs : List Int} (h : jdZ w base v zs) (hb : b' ≤ base) : jdZ w b' v zs := by
 refine ⟨⟨h.1.1, ?_⟩, h.2⟩
 rcases h.1.2 with h0 | ⟨g, cap, cur, e, hg, r⟩
 ·exact .inl h0
 ·exact .inr ⟨g, cap, cur, e, by omega, r⟩
theorem jaa {a b c : World} (h : a.grownBy b none) (k : b.grownBy c none) : a.grownBy c none :=
 ⟨k.os.trans h.os, k.tape.trans h.tape, k.output.trans h.output, Nat.le_trans h.size k.size, fun i hi _ => (k.block i (Nat.lt_of_lt_of_le hi h.size) (by simp)).trans (h.block i hi (by simp))⟩
theorem jak {a b c : World} (h : a.grownBy b none) {row : Option Nat} (k : b.grownBy c row) (hr : ∀ g, row = some g → a.heap.size ≤ g) : a.grownBy c none :=
 ⟨k.os.trans h.os, k.tape.trans h.tape, k.output.trans h.output, Nat.le_trans h.size k.size, fun i hi _ => (k.block i (Nat.lt_of_lt_of_le hi h.size) (fun e => by have := hr i e.symm; omega)).trans (h.block i hi (by simp))⟩
theorem jaV {a b : World} (h : a.grownBy b none) : a.grownBy b.drew none := ⟨h.os, h.tape, h.output, h.size, h.block⟩
theorem jae (a : World) : a.grownBy a none := World.grownBy.refl a none
theorem jab (a : World) (o : Obj) : a.grownBy (a.alloc o) none := World.grownBy_alloc a o none
theorem je2 {W w : World} (h : W.grownBy w none) : Below W.heap.size W w := ⟨h.os, h.tape, h.output, h.size, fun k hk => h.block k hk (by simp)⟩
theorem jdZ.lt {w : World} {base : Nat} {v : Value} {zs : List Int} (h : jdZ w base v zs) : ∀ k, v.ownBlock = some k → base ≤ k ∧ k < w.heap.size := h.1.lt
end Go.Proofs.YtbgbpfbjeleooaaGreat
namespace Go.Proofs.YtbgbpfbjeleooaaGreat
open Go.RowKit
def bh (zs : List Int) (i : Nat) : Int := if zs.length ≤ i then 1 else zs.getD (zs.length - 1 - i) 0
theorem jh1 (v : Value) (zs : List Int) (i : Nat) (w : World) (h : jaw w v zs) (hi : i ≤ 1000000000000) :
    Calls Tryz.prog 73 #[v, .int .i64 i] w fun e w' => e = .returned (.int .i64 (bh zs i)) ∧ w = w' := by
     obtain ⟨ao, cap, rfl, h1, h2, h3, h4, h5, h6⟩ := h
     by_cases hl : zs.length ≤ i
     ·have hb : bh zs i = 1 := by simp [bh, hl]
      rw [hb]
      clear h4 h5 h6 hb
      go_enter Tryz.func73, Tryz.ntmps73
      go_wp2
      go_ret
      exact ⟨rfl, rfl⟩
     ·obtain ⟨b, off, rfl, hc⟩ := h5 (by omega)
      have hb : bh zs i = zs.getD (zs.length - 1 - i) 0 := by simp [bh, hl]
      have hcell : w.cell? ⟨b, off + (zs.length - 1 - i), none⟩ = some (.int .i64 (bh zs i)) := by rw [hb]; exact hc _ (by omega)
      clear h4 h5 h6 hb hc
      go_enter Tryz.func73, Tryz.ntmps73
      go_wp2
      go_ret
      exact ⟨rfl, rfl⟩
theorem jh2 {zs : List Int} {k : Nat} (hk : k < zs.length) {z : Int} (hz : z = zs.getD k 0) (h : z < 1) : ∃ z ∈ zs, z < 1 :=
 ⟨zs.getD k 0, by simp [List.getD, hk], by omega⟩
theorem jlK {zs : List Int} {p : Int → Prop} (h : ∀ t, t < zs.length → p (zs.getD t 0)) : ∀ z ∈ zs, p z := by
 intro z hz
 obtain ⟨t, ht, rfl⟩ := List.mem_iff_getElem.1 hz
 have := h t ht
 simpa [List.getD, ht] using this
theorem jjR {E : Int} (h : ¬ E = 0) : (E == 0) = false := by simpa using h
theorem jfU {k t : Nat} (h : t < k + 1) : t < k ∨ t = k := by omega
theorem jg1 {zs : List Int} {e : Int} (h : jde zs = e) (he : e ≠ 0) : Ending.returned (.tuple #[.int .i64 0, .int .i64 e]) = Ending.returned (.tuple #[.int .i64 (cnt zs), .int .i64 (jde zs)]) := by
 rw [h, jlf (by rw [h]; exact he)]
theorem bh_in {zs : List Int} {k : Nat} (hk : k < zs.length) : bh zs k = zs.getD (zs.length - 1 - k) 0 := by
 unfold bh; rw [if_neg (by omega)]
theorem jiK {zs : List Int} {k : Nat} (hk : k < zs.length) : jdK (zs.drop (zs.length - (k + 1))) = jdK (zs.drop (zs.length - k)) * bh zs k := by
 rw [jfv zs (zs.length - (k + 1)) (by omega), bh_in hk, Int.mul_comm, show zs.length - (k + 1) + 1 = zs.length - k by omega, show zs.length - (k + 1) = zs.length - 1 - k by omega]
theorem jlL {zs : List Int} {k : Nat} (h : ∀ z ∈ zs, 1 ≤ z) : 1 ≤ bh zs k := by
 unfold bh
 split
 ·omega
 ·exact h _ (by rw [List.getD, List.getElem?_eq_getElem (by omega)]; simp)
theorem jhA {p d : Int} (hp : 1 ≤ p) : 65536 / p < d ↔ 65536 < p * d := by
 rw [Int.ediv_lt_iff_lt_mul (by omega), Int.mul_comm]
theorem je3 (v : Value) (zs : List Int) (w : World) (h : jaw w v zs) :
    Calls Tryz.prog 44 #[v] w fun e w' => e = .returned (.tuple #[.int .i64 (cnt zs), .int .i64 (jde zs)]) ∧ w = w' := by
     have h0 := h
     obtain ⟨ao, cap, rfl, h1, h2, h3, h4, h5, h6⟩ := h
     go_enter Tryz.func44, Tryz.ntmps44
     go_wp2
     go_loopw [11] (fun i wr => wr = w ∧ ∃ k : Nat, k ≤ zs.length ∧ i = .int .i64 k ∧ ∀ t, t < k → 1 ≤ zs.getD t 0) (fun i _ => zs.length - (intOf i).toNat)
     case atStart => exact ⟨rfl, 0, Nat.zero_le _, rfl, fun t h => absurd h (by omega)⟩
     case round =>
      obtain ⟨hw, k, hk, rfl, hp⟩ := hrel
      subst hw
      have HP : Hid (∀ t, t < k → 1 ≤ zs.getD t 0) := hp
      clear hp
      by_cases hkl : k < zs.length
      ·obtain ⟨b, off, rfl, hc⟩ := h5 (by omega)
       obtain ⟨z, hz⟩ : ∃ z, z = zs.getD k 0 := ⟨_, rfl⟩
       have hcell := hc k hkl
       rw [← hz] at hcell
       have HZ : Hid (z = zs.getD k 0) := hz
       clear hz hc
       by_cases hz1 : z < 1
       ·have HE : Hid (jde zs = 4) := jjX (jh2 hkl HZ.out hz1)
        go_wp2
        go_ret2
        exact ⟨jg1 HE.out (by decide), rfl⟩
       ·go_wp2
        go_roundw
        case rel =>
         refine ⟨by trivial, k + 1, by omega, by go_num, fun t ht => ?_⟩
         rcases jfU ht with h | rfl
         ·exact HP.out t h
         ·have := HZ.out; omega
        case measure => simp [intOf]; omega
      ·have hp : ∀ z ∈ zs, 1 ≤ z := jlK (fun t ht => HP.out t (by omega))
       have hP : Hid (∀ z ∈ zs, 1 ≤ z) := hp
       clear HP hp
       by_cases h7 : 6 < zs.length
       ·have HE : Hid (jde zs = 6) := jiF hP.out h7
        go_wp2
        go_ret2
        exact ⟨jg1 HE.out (by decide), rfl⟩
       ·go_wp2
        go_loopw [6, 23] (fun n i w' => w' = wr ∧ ∃ k : Nat, k ≤ zs.length ∧ i = .int .i64 k ∧ n = .int .i64 (jdK (zs.drop (zs.length - k))) ∧ jdK (zs.drop (zs.length - k)) ≤ 65536) (fun _ i _ => zs.length - (intOf i).toNat)
        case atStart => exact ⟨rfl, 0, Nat.zero_le _, rfl, by simp [jdK], by simp [jdK]⟩
        case round =>
         obtain ⟨hw, j, hj, rfl, hn, hle⟩ := hrel
         subst hw
         have hp1 := prod_pos _ (jfR hP.out (zs.length - j))
         obtain ⟨p, hpd⟩ : ∃ p, p = jdK (zs.drop (zs.length - j)) := ⟨_, rfl⟩
         rw [← hpd] at hn hle hp1
         subst hn
         have HPD : Hid (p = jdK (zs.drop (zs.length - j))) := hpd
         clear hpd
         by_cases hjl : j < zs.length
         ·have hb := jh1 _ zs j _ h0 (by omega)
          have hd1 := jlL (k := j) hP.out
          have hst := jiK hjl
          rw [← HPD.out] at hst
          obtain ⟨d, hd⟩ : ∃ d, d = bh zs j := ⟨_, rfl⟩
          rw [← hd] at hb hd1 hst
          have HST : Hid (jdK (zs.drop (zs.length - (j + 1))) = p * d) := hst
          have HB := jac hb
          clear hst hb hd
          by_cases ht : 65536 / p < d
          ·have HE : Hid (jde zs = 6) := jhZ hP.out (by
             have h1 := (jhA hp1).1 ht
             have h2 := jeH hP.out (zs.length - (j + 1))
             rw [HST.out] at h2
             omega)
           go_wp2_with (go_at_call 73; refine (HB.out).mono ?_; rintro e w' ⟨rfl, rfl⟩)
           go_ret2
           exact ⟨jg1 HE.out (by decide), rfl⟩
          ·have hle2 : p * d ≤ 65536 := by
             have h1 := mt (jhA hp1).2 ht
             omega
           have hge2 : 0 ≤ p * d := Int.mul_nonneg (by omega) (by omega)
           go_wp2_with (go_at_call 73; refine (HB.out).mono ?_; rintro e w' ⟨rfl, rfl⟩)
           go_roundw
           case rel => exact ⟨by trivial, j + 1, by omega, by go_num, by rw [HST.out], by rw [HST.out]; exact hle2⟩
           case measure => simp [intOf]; omega
         ·have HE : Hid (Fine zs) := ⟨hP.out, by omega, by have := HPD.out; rw [show zs.length - j = 0 by omega] at this; simp at this; omega⟩
          have HN : Hid (p = cnt zs) := by show p = cnt zs; rw [HE.out.cnt]; have := HPD.out; rw [show zs.length - j = 0 by omega] at this; simpa using this
          go_wp2
          go_ret2
          exact ⟨by rw [HE.out.ok, ← HN.out]; rfl, rfl⟩
end Go.Proofs.YtbgbpfbjeleooaaGreat
