/- Joined texts: SPlain, SMem, SFrame, NBase, NFirst, NCut, NClone, NOne. -/
import Derived.WalkKit
import Derived.Test.YtdcbjikjeicgbaaGreatDoorRows
import Derived.WalkSpells
import Derived.Laws.AppendOwnNone
import Derived.ProofKit
import Derived.OpenShut
import Derived.SizedLaws
import Derived.ShutString
import Derived.Deep.LoopGhost
import Derived.Deep.AppendLies
import Derived.Deep.RegionHeld3
import Derived.Deep.RegionWith
import Derived.Deep.RegionLaw
import Derived.Deep.CutRange
import Derived.Lib.Bytealg
import Derived.Lib.IndexLaws
import Derived.OwnWalk
import Derived.Lib.Strings
import Derived.Lib.Walk
import Derived.Lib.BufferWrite
import Derived.Lib.UnsafeStr
import Derived.Laws.MakeOwn
/- Lists of dimensions: their product, count, strides, coordinates; no program stands here. -/
namespace Go.Proofs.YtdcbjikjeicgbaaGreatDoor

/-- The product of a list. -/
def prod : List Int → Int
  | [] => 1
  | z :: zs => z * prod zs

theorem prod_append (a b : List Int) : prod (a ++ b) = prod a * prod b := by
  induction a with
  | nil => simp [prod]
  | cons z zs ih => simp [prod, ih, Int.mul_assoc]

theorem prod_pos : ∀ (zs : List Int), (∀ z ∈ zs, 1 ≤ z) → 1 ≤ prod zs
  | [], _ => by simp [prod]
  | z :: zs, h => by
    have h1 := h z (by simp)
    have h2 := prod_pos zs (fun y hy => h y (by simp [hy]))
    have := Int.mul_le_mul h1 h2 (by omega) (by omega)
    simpa [prod] using this

theorem le_mul_left {a b : Int} (ha : 1 ≤ a) (hb : 0 ≤ b) : b ≤ a * b := by
  have := Int.mul_le_mul_of_nonneg_right ha hb
  omega

theorem le_mul_right {a b : Int} (ha : 1 ≤ a) (hb : 0 ≤ b) : b ≤ b * a := by
  rw [Int.mul_comm]; exact le_mul_left ha hb

theorem pos_drop {zs : List Int} (h : ∀ z ∈ zs, 1 ≤ z) (k : Nat) : ∀ z ∈ zs.drop k, 1 ≤ z := fun z hz => h z (List.mem_of_mem_drop hz)
theorem pos_take {zs : List Int} (h : ∀ z ∈ zs, 1 ≤ z) (k : Nat) : ∀ z ∈ zs.take k, 1 ≤ z := fun z hz => h z (List.mem_of_mem_take hz)

theorem prod_drop_le {zs : List Int} (h : ∀ z ∈ zs, 1 ≤ z) (k : Nat) : prod (zs.drop k) ≤ prod zs := by
  have e : prod zs = prod (zs.take k) * prod (zs.drop k) := by rw [← prod_append, List.take_append_drop]
  rw [e]
  have h2 := prod_pos _ (pos_drop h k)
  exact le_mul_left (prod_pos _ (pos_take h k)) (by omega)

theorem prod_take_le {zs : List Int} (h : ∀ z ∈ zs, 1 ≤ z) (k : Nat) : prod (zs.take k) ≤ prod zs := by
  have e : prod zs = prod (zs.take k) * prod (zs.drop k) := by rw [← prod_append, List.take_append_drop]
  rw [e]
  have h2 := prod_pos _ (pos_take h k)
  exact le_mul_right (prod_pos _ (pos_drop h k)) (by omega)

theorem drop_step (zs : List Int) (k : Nat) (hk : k < zs.length) : zs.drop k = zs.getD k 0 :: zs.drop (k + 1) := by
  rw [List.drop_eq_getElem_cons hk]
  simp [List.getD, hk]

theorem prod_drop_step (zs : List Int) (k : Nat) (hk : k < zs.length) : prod (zs.drop k) = zs.getD k 0 * prod (zs.drop (k + 1)) := by
  rw [drop_step zs k hk]; rfl

theorem take_step (zs : List Int) (k : Nat) (hk : k < zs.length) : zs.take (k + 1) = zs.take k ++ [zs.getD k 0] := by
  rw [List.take_add_one]
  simp [List.getD, hk]

theorem prod_take_step (zs : List Int) (k : Nat) (hk : k < zs.length) : prod (zs.take (k + 1)) = prod (zs.take k) * zs.getD k 0 := by
  rw [take_step zs k hk, prod_append]
  simp [prod]

/-- The error of a list of dimensions: 4, if one is below 1; 6, if there are more than six, or their product is above 65536. -/
def cntE (zs : List Int) : Int := if zs.any (fun z => decide (z < 1)) = true then 4 else if 6 < zs.length then 6 else if 65536 < prod zs then 6 else 0
def cnt (zs : List Int) : Int := if cntE zs = 0 then prod zs else 0

theorem any_iff (zs : List Int) : zs.any (fun z => decide (z < 1)) = true ↔ ∃ z ∈ zs, z < 1 := by simp [List.any_eq_true]

theorem cntE_low {zs : List Int} (h : ∃ z ∈ zs, z < 1) : cntE zs = 4 := by simp [cntE, (any_iff zs).2 h]
theorem not_low {zs : List Int} (h : ∀ z ∈ zs, 1 ≤ z) : zs.any (fun z => decide (z < 1)) = false := by
  rw [Bool.eq_false_iff, ne_eq, any_iff]
  rintro ⟨z, hz, h1⟩
  have := h z hz
  omega
theorem cntE_many {zs : List Int} (h : ∀ z ∈ zs, 1 ≤ z) (hl : 6 < zs.length) : cntE zs = 6 := by simp [cntE, not_low h, hl]
theorem cntE_great {zs : List Int} (h : ∀ z ∈ zs, 1 ≤ z) (hp : 65536 < prod zs) : cntE zs = 6 := by
  simp only [cntE, not_low h, Bool.false_eq_true, if_false, hp, if_true]
  split <;> rfl
theorem cntE_ok {zs : List Int} (h : ∀ z ∈ zs, 1 ≤ z) (hl : zs.length ≤ 6) (hp : prod zs ≤ 65536) : cntE zs = 0 := by
  simp only [cntE, not_low h, Bool.false_eq_true, if_false, if_neg (show ¬ 6 < zs.length by omega), if_neg (show ¬ 65536 < prod zs by omega)]

/-- Dimensions that may be. -/
structure Fine (zs : List Int) : Prop where
  pos : ∀ z ∈ zs, 1 ≤ z
  few : zs.length ≤ 6
  le : prod zs ≤ 65536

theorem fine_of {zs : List Int} (h : cntE zs = 0) : Fine zs := by
  unfold cntE at h
  split at h
  · simp at h
  · split at h
    · simp at h
    · split at h
      · simp at h
      · rename_i h1 h2 h3
        refine ⟨fun z hz => ?_, by omega, by omega⟩
        rcases Int.lt_or_le z 1 with h4 | h4
        · exact absurd ((any_iff zs).2 ⟨z, hz, h4⟩) h1
        · omega

theorem Fine.ok {zs : List Int} (h : Fine zs) : cntE zs = 0 := cntE_ok h.pos h.few h.le
theorem Fine.cnt {zs : List Int} (h : Fine zs) : cnt zs = prod zs := by simp [Go.Proofs.YtdcbjikjeicgbaaGreatDoor.cnt, h.ok]
theorem cnt_err {zs : List Int} (h : cntE zs ≠ 0) : cnt zs = 0 := by simp [cnt, h]
theorem cntE_cases (zs : List Int) : cntE zs = 0 ∨ cntE zs = 4 ∨ cntE zs = 6 := by
  unfold cntE; split <;> (try split) <;> (try split) <;> simp
theorem Fine.drop {zs : List Int} (h : Fine zs) (k : Nat) : Fine (zs.drop k) :=
  ⟨pos_drop h.pos k, by have := h.few; simp; omega, Int.le_trans (prod_drop_le h.pos k) h.le⟩
theorem Fine.prod_pos {zs : List Int} (h : Fine zs) : 1 ≤ prod zs := Go.Proofs.YtdcbjikjeicgbaaGreatDoor.prod_pos zs h.pos
theorem Fine.at {zs : List Int} (h : Fine zs) (k : Nat) (hk : k < zs.length) : 1 ≤ zs.getD k 0 := h.pos _ (by simp [List.getD, hk])

/-- The strides of a list of dimensions. -/
def strd : List Int → List Int
  | [] => []
  | _ :: zs => prod zs :: strd zs

theorem strd_length (zs : List Int) : (strd zs).length = zs.length := by
  induction zs with
  | nil => rfl
  | cons z zs ih => simp [strd, ih]

theorem strd_at : ∀ (zs : List Int) (k : Nat), k < zs.length → (strd zs).getD k 0 = prod (zs.drop (k + 1))
  | _ :: _, 0, _ => by simp [strd, List.getD]
  | z :: zs, k + 1, h => by
    have := strd_at zs k (by simpa using h)
    simpa [strd, List.getD] using this

/-- The number of the element at some coordinates. -/
def offs : List Int → List Int → Int
  | _ :: zs, c :: cs => c * prod zs + offs zs cs
  | _, _ => 0

/-- The coordinates of the element of a number. -/
def crds : List Int → Int → List Int
  | [], _ => []
  | z :: zs, n => (n / prod zs) % z :: crds zs n

theorem crds_length (zs : List Int) (n : Int) : (crds zs n).length = zs.length := by
  induction zs with
  | nil => rfl
  | cons z zs ih => simp [crds, ih]

/-- Each coordinate is at least 0 and below its dimension. -/
def inside : List Int → List Int → Bool
  | z :: zs, c :: cs => decide (0 ≤ c ∧ c < z) && inside zs cs
  | [], [] => true
  | _, _ => false

theorem crds_inside (zs : List Int) (n : Int) (h : ∀ z ∈ zs, 1 ≤ z) : inside zs (crds zs n) = true := by
  induction zs with
  | nil => rfl
  | cons z zs ih =>
    have hz := h z (by simp)
    have h1 := Int.emod_nonneg (n / prod zs) (show z ≠ 0 by omega)
    have h2 := Int.emod_lt_of_pos (n / prod zs) (show 0 < z by omega)
    simp [crds, inside, h1, h2, ih (fun y hy => h y (by simp [hy]))]

theorem offs_crds (zs : List Int) (n : Int) (h : ∀ z ∈ zs, 1 ≤ z) : offs zs (crds zs n) = n % prod zs := by
  induction zs generalizing n with
  | nil => simp [offs, prod, Int.emod_one]
  | cons z zs ih =>
    simp only [offs, crds, prod]
    rw [ih n (fun y hy => h y (by simp [hy]))]
    rw [Int.mul_comm z (prod zs)]
    have hp := prod_pos zs (fun y hy => h y (by simp [hy]))
    have hz := h z (by simp)
    have e1 : n / prod zs % z = n / prod zs - z * (n / prod zs / z) := Int.emod_def _ _
    have e2 : n % prod zs = n - prod zs * (n / prod zs) := Int.emod_def _ _
    have e3 : n % (prod zs * z) = n - prod zs * z * (n / (prod zs * z)) := Int.emod_def _ _
    have e4 : n / prod zs / z = n / (prod zs * z) := Int.ediv_ediv_of_nonneg (by omega)
    rw [e1, e2, e3, e4, Int.sub_mul]
    have e5 : z * (n / (prod zs * z)) * prod zs = prod zs * z * (n / (prod zs * z)) := by
      rw [Int.mul_comm z, Int.mul_assoc, Int.mul_comm (n / _), Int.mul_comm z]
    have e6 : n / prod zs * prod zs = prod zs * (n / prod zs) := Int.mul_comm _ _
    omega

end Go.Proofs.YtdcbjikjeicgbaaGreatDoor

/- Lists of whole numbers in memory: what a slice reads as, and what stays of it behind new blocks and writes elsewhere. -/
namespace Go.Proofs.YtdcbjikjeicgbaaGreatDoor
open Go.RowKit

theorem hide {p : Prop} (h : p) : Hid p := h

/-- The value v is the list zs of whole numbers, in the world w. -/
def IsInts (w : World) (v : Value) (zs : List Int) : Prop :=
  ∃ ao cap, v = .slice ao zs.length cap ∧ zs.length ≤ cap ∧ cap ≤ 9223372036854775807 ∧ zs.length * 8 ≤ 140737488351232 ∧ (ao = none → zs = [] ∧ cap = 0) ∧
    (0 < zs.length → ∃ b off, ao = some ⟨b, off, none⟩ ∧ ∀ t, t < zs.length → w.cell? ⟨b, off + t, none⟩ = some (.int .i64 (zs.getD t 0))) ∧
    (∀ z ∈ zs, -9223372036854775808 ≤ z ∧ z ≤ 9223372036854775807)

theorem IsInts.le {w : World} {v : Value} {zs : List Int} (h : IsInts w v zs) : zs.length * 8 ≤ 140737488351232 := by
  obtain ⟨_, _, _, _, _, h, _⟩ := h; exact h
theorem IsInts.wf {w : World} {v : Value} {zs : List Int} (h : IsInts w v zs) : ∀ z ∈ zs, -9223372036854775808 ≤ z ∧ z ≤ 9223372036854775807 := by
  obtain ⟨_, _, _, _, _, _, _, _, h⟩ := h; exact h

theorem IsInts.kept {w w' : World} {v : Value} {zs : List Int} (h : IsInts w v zs) (hk : ∀ b, b < w.heap.size → v.ownBlock = some b → w'.heap[b]? = w.heap[b]?) : IsInts w' v zs := by
  obtain ⟨ao, cap, rfl, h1, h2, h3, h4, h5, h6⟩ := h
  refine ⟨ao, cap, rfl, h1, h2, h3, h4, fun hl => ?_, h6⟩
  obtain ⟨b, off, rfl, hc⟩ := h5 hl
  refine ⟨b, off, rfl, fun t ht => ?_⟩
  have hb : b < w.heap.size := World.block_lt_of_cell? w _ (hc t ht)
  rw [← hc t ht]
  exact World.cell?_of_block (hk b hb rfl)

/-- Behind new blocks, and writes to one row that is not its own. -/
theorem IsInts.grown {w w' : World} {v : Value} {zs : List Int} (h : IsInts w v zs) {row : Option Nat} (hg : w.grownBy w' row) (hne : v.ownBlock = none ∨ v.ownBlock ≠ row) : IsInts w' v zs :=
  h.kept fun b hb hv => hg.block b hb (by rcases hne with h0 | h0 <;> simp_all)

theorem IsInts.more {w w' : World} {v : Value} {zs : List Int} (h : IsInts w v zs) (hg : w.grownBy w' none) : IsInts w' v zs :=
  h.kept fun b hb _ => hg.block b hb (by simp)

/-- A list of the call's own. -/
def Owns (w : World) (base : Nat) (v : Value) (zs : List Int) : Prop :=
  w.ownsRow base 3 1 v zs.length (zs.map (Value.int .i64)) ∧ zs.length * 8 ≤ 140737488351232 ∧ (∀ z ∈ zs, -9223372036854775808 ≤ z ∧ z ≤ 9223372036854775807)

theorem Owns.ints {w : World} {base : Nat} {v : Value} {zs : List Int} (h : Owns w base v zs) : IsInts w v zs := by
  obtain ⟨hr, hle, hwf⟩ := h
  have hr0 := hr
  rcases hr.2 with ⟨rfl, h0⟩ | ⟨g, cap, cur, rfl, _, _, hnc, hcm, _, _⟩
  · obtain rfl : zs = [] := List.length_eq_zero_iff.1 h0
    exact ⟨none, 0, rfl, by simp, by simp, by simp, fun _ => ⟨rfl, rfl⟩, fun h => by simp at h, fun z hz => by simp at hz⟩
  · refine ⟨_, cap, rfl, hnc, by simpa [maxLen] using hcm, hle, (fun h => by cases h), fun _ => ⟨g, 0, rfl, fun t ht => ?_⟩, hwf⟩
    rw [Nat.zero_add, hr0.cellAt t (by omega)]
    simp [List.getD, ht]

theorem Owns.more {w w' : World} {base : Nat} {v : Value} {zs : List Int} (h : Owns w base v zs) {row : Option Nat} (hg : w.grownBy w' row) (hne : v.ownBlock = none ∨ v.ownBlock ≠ row) : Owns w' base v zs :=
  ⟨h.1.kept hg hne, h.2⟩

theorem Owns.new {w w' : World} {base : Nat} {v : Value} {zs : List Int} (h : Owns w base v zs) (hg : w.grownBy w' none) : Owns w' base v zs :=
  h.more hg (by cases v.ownBlock <;> simp)

theorem Owns.base_le {w : World} {base b' : Nat} {v : Value} {zs : List Int} (h : Owns w base v zs) (hb : b' ≤ base) : Owns w b' v zs := by
  refine ⟨⟨h.1.1, ?_⟩, h.2⟩
  rcases h.1.2 with h0 | ⟨g, cap, cur, e, hg, r⟩
  · exact .inl h0
  · exact .inr ⟨g, cap, cur, e, by omega, r⟩

theorem grown_trans {a b c : World} (h : a.grownBy b none) (k : b.grownBy c none) : a.grownBy c none :=
  ⟨k.os.trans h.os, k.tape.trans h.tape, k.output.trans h.output, Nat.le_trans h.size k.size, fun i hi _ => (k.block i (Nat.lt_of_lt_of_le hi h.size) (by simp)).trans (h.block i hi (by simp))⟩

/-- Writes to a row that was not there yet are none to what was there. -/
theorem grown_trans_row {a b c : World} (h : a.grownBy b none) {row : Option Nat} (k : b.grownBy c row) (hr : ∀ g, row = some g → a.heap.size ≤ g) : a.grownBy c none :=
  ⟨k.os.trans h.os, k.tape.trans h.tape, k.output.trans h.output, Nat.le_trans h.size k.size, fun i hi _ => (k.block i (Nat.lt_of_lt_of_le hi h.size) (fun e => by have := hr i e.symm; omega)).trans (h.block i hi (by simp))⟩

theorem grown_drew {a b : World} (h : a.grownBy b none) : a.grownBy b.drew none := ⟨h.os, h.tape, h.output, h.size, h.block⟩
theorem grown_refl (a : World) : a.grownBy a none := World.grownBy.refl a none
theorem grown_new (a : World) (o : Obj) : a.grownBy (a.alloc o) none := World.grownBy_alloc a o none
theorem grown_below {W w : World} (h : W.grownBy w none) : Below W.heap.size W w := ⟨h.os, h.tape, h.output, h.size, fun k hk => h.block k hk (by simp)⟩

theorem Owns.lt {w : World} {base : Nat} {v : Value} {zs : List Int} (h : Owns w base v zs) : ∀ k, v.ownBlock = some k → base ≤ k ∧ k < w.heap.size := h.1.lt

/-- Two lists of the call's own that were made one behind the other lie apart. -/
theorem apart_of {v v' : Value} {a b : Nat} (h : ∀ k, v.ownBlock = some k → k < a) (h' : ∀ k, v'.ownBlock = some k → b ≤ k) (hab : a ≤ b) : v.ownBlock = none ∨ v.ownBlock ≠ v'.ownBlock := by
  cases hv : v.ownBlock with
  | none => exact .inl rfl
  | some k =>
    refine .inr fun e => ?_
    have h1 := h k hv
    have h2 := h' k e.symm
    omega

theorem ints_lt {w : World} {v : Value} {zs : List Int} (h : IsInts w v zs) (hz : zs ≠ []) : ∀ k, v.ownBlock = some k → k < w.heap.size := by
  obtain ⟨ao, cap, rfl, _, _, _, _, h5, _⟩ := h
  have hl : 0 < zs.length := by cases zs <;> simp_all
  obtain ⟨b, off, rfl, hc⟩ := h5 hl
  intro k hk
  simp only [Value.ownBlock, Option.some.injEq] at hk
  subst hk
  exact World.block_lt_of_cell? w _ (hc 0 hl)

end Go.Proofs.YtdcbjikjeicgbaaGreatDoor

/- Lists of whole numbers that come in, opened. -/
namespace Go.Proofs.YtdcbjikjeicgbaaGreatDoor
open Go.ChangeShapes Go.WideShapes Go.ChangeAt Go.RowKit

theorem own : ownKnob Tryz.prog.godebug = none := by kernel_rfl
theorem laidOut : laidOutB Tryz.prog = true := by kernel_rfl
theorem cellsInt : Tryz.prog.cellsOf 3 = 1 := by kernel_rfl
theorem bytesInt : Tryz.prog.bytesOf 3 = 8 := by kernel_rfl

theorem wf_bounds {z : Int} (h : (Lit.int .i64 z).wf = true) : -9223372036854775808 ≤ z ∧ z ≤ 9223372036854775807 := by
  have e : IntKind.i64.min = -9223372036854775808 := by decide
  simp [Lit.wf, e] at h
  exact h

set_option maxRecDepth 100000 in
theorem ints_of {H : Type} {enc : TypeId × Value → H} {W : World} {r : Reach} {b0 : Nat} {v : Value} {d : DataW H} {p : List MemPlace} {ts : List TypeId} {ds : List (DataW H)} {j : Nat}
    (hok : Value.okWide Tryz.prog W r b0 29 v) (h : DataW.Trod enc Tryz.prog W 0 (fun _ => true) true 29 v d p)
    (hsz : (DataW.weightsEach Tryz.prog ts ds).all (· ≤ reachBytes) = true) (ht : ts[j]? = some 29) (hd : ds[j]? = some d) : ∃ zs, IsInts W v zs := by
  obtain ⟨a0, la, ca, rfl⟩ := okWide_slice Tryz.underlying29 hok
  obtain ⟨fuel, hf⟩ := h
  rcases open_ints Tryz.underlying29 Tryz.underlying3 cellsInt hf with ⟨hcs, hx⟩ | ⟨a, len', cap', zs, hcs, _, hl, hm, hz, hx, hcell, hwz⟩
  · simp [Value.cells] at hcs
    obtain ⟨rfl, rfl, rfl⟩ := hcs
    exact ⟨[], none, 0, rfl, by simp, by simp, by simp, fun _ => ⟨rfl, rfl⟩, fun h => by simp at h, fun z hz => by simp at hz⟩
  · simp [Value.cells] at hcs
    obtain ⟨rfl, rfl, rfl⟩ := hcs
    simp only [Prod.mk.injEq] at hx
    obtain ⟨rfl, rfl⟩ := hx
    simp only [if_true] at hz
    have hs := sized_slice hsz (j := j) (t := 29) (e := 3) ht hd Tryz.underlying29
    rw [bytesInt] at hs
    simp only [lits, List.length_map, reachBytes, List.length_take, List.length_drop] at hs
    have hlt : (zs.take la).length = la := by simp; omega
    refine ⟨zs.take la, some a, ca, by rw [hlt], by rw [hlt]; exact hl, by simpa [maxLen] using hm, by rw [hlt]; omega, (fun h => by cases h), fun h0 => ?_, fun z hz => wf_bounds (hwz z (List.mem_of_mem_take hz))⟩
    rw [hlt] at h0
    obtain ⟨b, off, sp⟩ := a
    have hsp : sp = none := by simpa [Addr.add] using World.cell?_spot (hcell 0 (by omega))
    subst hsp
    refine ⟨b, off, rfl, fun t ht => ?_⟩
    rw [hlt] at ht
    rw [← Addr.add_lit, hcell t (by omega)]
    simp [List.getD, ht]
end Go.Proofs.YtdcbjikjeicgbaaGreatDoor

/- Lists whose elements take several cells, attributes and nodes. -/
namespace Go.Proofs.YtdcbjikjeicgbaaGreatDoor
open Go.RowKit

/-- The value v is a list whose elements' cells stand in a row. -/
def IsL {α : Type} (bytes size : Nat) (f : α → List Value) (w : World) (v : Value) (xs : List α) : Prop :=
  ∃ ao cap, v = .slice ao xs.length cap ∧ xs.length ≤ cap ∧ cap ≤ 9223372036854775807 ∧ xs.length * bytes ≤ 140737488351232 ∧ (ao = none → xs = [] ∧ cap = 0) ∧
    (0 < xs.length → ∃ b off, ao = some ⟨b, off, none⟩ ∧ ∀ k (hk : k < xs.length) j, j < size → w.cell? ⟨b, off + k * size + j, none⟩ = (f xs[k])[j]? ∧ (f xs[k])[j]? ≠ none)

theorem IsL.kept {α : Type} {bytes size : Nat} {f : α → List Value} {w w' : World} {v : Value} {xs : List α} (h : IsL bytes size f w v xs) (hk : ∀ b, b < w.heap.size → v.ownBlock = some b → w'.heap[b]? = w.heap[b]?) : IsL bytes size f w' v xs := by
  obtain ⟨ao, cap, rfl, h1, h2, h3, h4, h5⟩ := h
  refine ⟨ao, cap, rfl, h1, h2, h3, h4, fun hl => ?_⟩
  obtain ⟨b, off, rfl, hc⟩ := h5 hl
  refine ⟨b, off, rfl, fun k hk' j hj => ?_⟩
  obtain ⟨e, hne⟩ := hc k hk' j hj
  refine ⟨?_, hne⟩
  cases hx : (f xs[k])[j]? with
  | none => exact absurd hx hne
  | some x =>
    rw [hx] at e
    rw [← e]
    exact World.cell?_of_block (hk b (World.block_lt_of_cell? w _ e) rfl)

theorem IsL.more {α : Type} {bytes size : Nat} {f : α → List Value} {w w' : World} {v : Value} {xs : List α} (h : IsL bytes size f w v xs) (hg : w.grownBy w' none) : IsL bytes size f w' v xs := h.kept fun b hb _ => hg.block b hb (by simp)

theorem IsL.form {α : Type} {bytes size : Nat} {f : α → List Value} {w : World} {v : Value} {xs : List α} (h : IsL bytes size f w v xs) : ∃ ao cap, v = .slice ao xs.length cap ∧ xs.length ≤ cap ∧ cap ≤ 9223372036854775807 ∧ xs.length * bytes ≤ 140737488351232 := by
  obtain ⟨ao, cap, e, h1, h2, h3, -, -⟩ := h
  exact ⟨ao, cap, e, h1, h2, h3⟩

theorem IsL.nil {α : Type} (bytes size : Nat) (f : α → List Value) (w : World) : IsL bytes size f w (.slice none 0 0) [] :=
  ⟨none, 0, rfl, Nat.le_refl _, by decide, by simp, fun _ => ⟨rfl, rfl⟩, fun h => (by simp at h)⟩

theorem IsL.addr {α : Type} {bytes size : Nat} {f : α → List Value} {w : World} {ao : Option Addr} {len cap : Nat} {xs : List α} (h : IsL bytes size f w (.slice ao len cap) xs) {k : Nat} (hk : k < xs.length) :
    ∃ b off, ao = some ⟨b, off, none⟩ := by
  obtain ⟨ao', cap', e, _, _, _, _, h5⟩ := h
  cases e
  obtain ⟨b, off, e', -⟩ := h5 (by omega)
  exact ⟨b, off, e'⟩

theorem IsL.at {α : Type} {bytes size : Nat} {f : α → List Value} {w : World} {b off len cap : Nat} {xs : List α} (h : IsL bytes size f w (.slice (some ⟨b, off, none⟩) len cap) xs) (k : Nat) (hk : k < xs.length) (j : Nat) (hj : j < size) :
    w.cell? ⟨b, off + k * size + j, none⟩ = (f xs[k])[j]? := by
  obtain ⟨ao', cap', e, _, _, _, _, h5⟩ := h
  cases e
  obtain ⟨b', off', e', hc⟩ := h5 (by omega)
  cases e'
  exact (hc k hk j hj).1

theorem flat_len {α : Type} {f : α → List Value} {size : Nat} (hf : ∀ a, (f a).length = size) (xs : List α) : (xs.flatMap f).length = xs.length * size := by
  induction xs with
  | nil => simp
  | cons a l ih => rw [List.flatMap_cons, List.length_append, ih, hf, List.length_cons, Nat.add_mul]; omega

theorem flat_at {α : Type} {f : α → List Value} {size : Nat} (hf : ∀ a, (f a).length = size) (xs : List α) (k j : Nat) (hk : k < xs.length) (hj : j < size) : (xs.flatMap f)[k * size + j]? = (f xs[k])[j]? := by
  induction xs generalizing k with
  | nil => simp at hk
  | cons a l ih =>
    rw [List.flatMap_cons]
    cases k with
    | zero => rw [List.getElem?_append_left (by rw [hf]; omega)]; simp
    | succ k =>
      rw [List.getElem?_append_right (by rw [hf, Nat.add_mul]; omega)]
      have e : (k + 1) * size + j - (f a).length = k * size + j := by rw [hf, Nat.add_mul]; omega
      rw [e, ih k (by simpa using hk)]
      simp

/-- A list of the call's own: its elements' cells in a row. -/
def OwnsL {α : Type} (te : TypeId) (size : Nat) (f : α → List Value) (w : World) (base : Nat) (v : Value) (xs : List α) : Prop :=
  w.ownsRow base te size v xs.length (xs.flatMap f)

theorem OwnsL.kept {α : Type} {te : TypeId} {size : Nat} {f : α → List Value} {w w' : World} {base : Nat} {v : Value} {xs : List α} (h : OwnsL te size f w base v xs) {row : Option Nat} (hg : w.grownBy w' row) (hr : ∀ g, row = some g → g < base) : OwnsL te size f w' base v xs := by
  refine World.ownsRow.kept h hg ?_
  cases hv : v.ownBlock with
  | none => exact .inl rfl
  | some k =>
    refine .inr fun e => ?_
    have h1 := World.ownsRow.lt h k hv
    have h2 := hr k e.symm
    omega

theorem OwnsL.more {α : Type} {te : TypeId} {size : Nat} {f : α → List Value} {w w' : World} {base : Nat} {v : Value} {xs : List α} (h : OwnsL te size f w base v xs) (hg : w.grownBy w' none) : OwnsL te size f w' base v xs := h.kept hg (by simp)

theorem OwnsL.nil {α : Type} (te : TypeId) (size : Nat) (f : α → List Value) (w : World) (base : Nat) : OwnsL te size f w base (.slice none 0 0) [] := World.ownsRow_nil _ _ _ _

theorem OwnsL.base_le {α : Type} {te : TypeId} {size : Nat} {f : α → List Value} {w : World} {base b' : Nat} {v : Value} {xs : List α} (h : OwnsL te size f w base v xs) (hb : b' ≤ base) : OwnsL te size f w b' v xs := by
  refine ⟨h.1, ?_⟩
  rcases h.2 with h0 | ⟨g, cap, cur, e, hg, r⟩
  · exact .inl h0
  · exact .inr ⟨g, cap, cur, e, by omega, r⟩

theorem OwnsL.form {α : Type} {te : TypeId} {size : Nat} {f : α → List Value} {w : World} {base : Nat} {v : Value} {xs : List α} (h : OwnsL te size f w base v xs) : ∃ ao cap, v = .slice ao xs.length cap := by
  rcases h.2 with ⟨rfl, h0⟩ | ⟨g, cap, cur, rfl, _⟩
  · exact ⟨none, 0, by rw [h0]⟩
  · exact ⟨_, _, rfl⟩

theorem OwnsL.isL {α : Type} {te : TypeId} {size bytes : Nat} {f : α → List Value} (hf : ∀ a, (f a).length = size) {w : World} {base : Nat} {v : Value} {xs : List α} (h : OwnsL te size f w base v xs) (hl : xs.length * bytes ≤ 140737488351232) : IsL bytes size f w v xs := by
  have h0 := h
  rcases h.2 with ⟨rfl, hn⟩ | ⟨g, cap, cur, rfl, _, _, hnc, hcm, _, _⟩
  · obtain rfl : xs = [] := List.length_eq_zero_iff.1 hn
    exact IsL.nil _ _ _ _
  · refine ⟨_, cap, rfl, hnc, by simpa [maxLen] using hcm, hl, (fun h => by cases h), fun _ => ⟨g, 0, rfl, fun k hk j hj => ?_⟩⟩
    have hlt : k * size + j < xs.length * size := by
      have : (k + 1) * size ≤ xs.length * size := Nat.mul_le_mul_right _ hk
      rw [Nat.add_mul] at this
      omega
    rw [Nat.zero_add, World.ownsRow.cellAt h0 _ (by exact hlt), flat_at hf xs k j hk hj]
    exact ⟨rfl, by simp [hf, hj]⟩

/-- A slice: where it begins, how long it is, how much room it has. -/
structure Sl where
  a : Option Addr
  n : Nat
  c : Nat

abbrev Sl.v (s : Sl) : Value := .slice s.a s.n s.c

/-- An attribute, as its cells have it. -/
structure Atr where
  name : ByteArray
  kind : Int
  f : Int
  i : Int
  s : ByteArray
  ty : Int
  dv : Sl
  tv : Sl
  iv : Sl

def acells (a : Atr) : List Value := [.string a.name, .int .i64 a.kind, .int .i64 a.f, .int .i64 a.i, .string a.s, .int .i64 a.ty, .slice a.dv.a a.dv.n a.dv.c, .slice a.tv.a a.tv.n a.tv.c, .slice a.iv.a a.iv.n a.iv.c]

def aval (a : Atr) : Value := .agg #[.string a.name, .int .i64 a.kind, .int .i64 a.f, .int .i64 a.i, .string a.s, .int .i64 a.ty, .slice a.dv.a a.dv.n a.dv.c, .slice a.tv.a a.tv.n a.tv.c, .slice a.iv.a a.iv.n a.iv.c]

abbrev IsAttrs (w : World) (v : Value) (xs : List Atr) : Prop := IsL 136 9 acells w v xs

theorem IsL.attr {w : World} {b off len cap : Nat} {xs : List Atr} (h : IsL 136 9 acells w (.slice (some ⟨b, off, none⟩) len cap) xs) (k : Nat) (hk : k < xs.length) :
    w.cell? ⟨b, off + k * 9, none⟩ = some (.string xs[k].name) ∧ w.cell? ⟨b, off + k * 9 + 1, none⟩ = some (.int .i64 xs[k].kind) ∧ w.cell? ⟨b, off + k * 9 + 2, none⟩ = some (.int .i64 xs[k].f) ∧ w.cell? ⟨b, off + k * 9 + 3, none⟩ = some (.int .i64 xs[k].i) ∧ w.cell? ⟨b, off + k * 9 + 4, none⟩ = some (.string xs[k].s) ∧ w.cell? ⟨b, off + k * 9 + 5, none⟩ = some (.int .i64 xs[k].ty) ∧ w.cell? ⟨b, off + k * 9 + 6, none⟩ = some (.slice xs[k].dv.a xs[k].dv.n xs[k].dv.c) ∧ w.cell? ⟨b, off + k * 9 + 7, none⟩ = some (.slice xs[k].tv.a xs[k].tv.n xs[k].tv.c) ∧ w.cell? ⟨b, off + k * 9 + 8, none⟩ = some (.slice xs[k].iv.a xs[k].iv.n xs[k].iv.c) := by
  have f := fun j hj => h.at k hk j hj
  exact ⟨f 0 (by omega), f 1 (by omega), f 2 (by omega), f 3 (by omega), f 4 (by omega), f 5 (by omega), f 6 (by omega), f 7 (by omega), f 8 (by omega)⟩

/-- The cells of a block that holds an attribute. -/
theorem atr_cells {w : World} {B : Nat} {a : Atr} (hb : w.heap[B]? = some (.cells #[.string a.name, .int .i64 a.kind, .int .i64 a.f, .int .i64 a.i, .string a.s, .int .i64 a.ty, .slice a.dv.a a.dv.n a.dv.c, .slice a.tv.a a.tv.n a.tv.c, .slice a.iv.a a.iv.n a.iv.c] 57 (0, 0))) :
    w.cell? ⟨B, 0, none⟩ = some (.string a.name) ∧ w.cell? ⟨B, 1, none⟩ = some (.int .i64 a.kind) ∧ w.cell? ⟨B, 2, none⟩ = some (.int .i64 a.f) ∧ w.cell? ⟨B, 3, none⟩ = some (.int .i64 a.i) ∧ w.cell? ⟨B, 4, none⟩ = some (.string a.s) ∧ w.cell? ⟨B, 5, none⟩ = some (.int .i64 a.ty) ∧ w.cell? ⟨B, 6, none⟩ = some (.slice a.dv.a a.dv.n a.dv.c) ∧ w.cell? ⟨B, 7, none⟩ = some (.slice a.tv.a a.tv.n a.tv.c) ∧ w.cell? ⟨B, 8, none⟩ = some (.slice a.iv.a a.iv.n a.iv.c) :=
  ⟨(cell_of_row _ _ 0 _ _ (0, 0) hb).trans rfl, (cell_of_row _ _ 1 _ _ (0, 0) hb).trans rfl, (cell_of_row _ _ 2 _ _ (0, 0) hb).trans rfl, (cell_of_row _ _ 3 _ _ (0, 0) hb).trans rfl, (cell_of_row _ _ 4 _ _ (0, 0) hb).trans rfl, (cell_of_row _ _ 5 _ _ (0, 0) hb).trans rfl, (cell_of_row _ _ 6 _ _ (0, 0) hb).trans rfl, (cell_of_row _ _ 7 _ _ (0, 0) hb).trans rfl, (cell_of_row _ _ 8 _ _ (0, 0) hb).trans rfl⟩

/-- The cells of a block that holds one cell. -/
theorem one_cell {w : World} {B : Nat} {x : Value} {t : TypeId} (hb : w.heap[B]? = some (.cells #[x] t (0, 0))) : w.cell? ⟨B, 0, none⟩ = some x := (cell_of_row _ _ 0 _ _ (0, 0) hb).trans rfl
end Go.Proofs.YtdcbjikjeicgbaaGreatDoor

/- The first attribute that is so called, by the walk. -/
namespace Go.Proofs.YtdcbjikjeicgbaaGreatDoor
open Go.RowKit

theorem box_kept {w w' : World} {B : Nat} {o : Obj} (hb : w.heap[B]? = some o) (hg : w.grownBy w' none) : w'.heap[B]? = some o := (hg.block B (Array.getElem?_eq_some_iff.1 hb).1 (by simp)).trans hb

/-- Is an attribute so called, and of that kind? -/
def isA (nm : ByteArray) (kd : Int) (a : Atr) : Bool := (a.name.toList == nm.toList) && (a.kind == kd)

set_option maxRecDepth 100000 in
set_option maxHeartbeats 1600000 in
theorem named1_any (a : Atr) (p q : Nat) (nm : ByteArray) (kd : Int) (w : World) (hp : w.heap[p]? = some (.cells #[.string nm] 9 (0, 0))) (hq : w.heap[q]? = some (.cells #[.int .i64 kd] 3 (0, 0))) :
    Calls Tryz.prog 170 #[aval a, .pointer (some ⟨p, 0, none⟩), .pointer (some ⟨q, 0, none⟩)] w fun e w' => e = .returned (.bool (isA nm kd a)) ∧ w.grownBy w' none := by
  have g0 := grown_new w (.cells #[.string a.name, .int .i64 a.kind, .int .i64 a.f, .int .i64 a.i, .string a.s, .int .i64 a.ty, .slice a.dv.a a.dv.n a.dv.c, .slice a.tv.a a.tv.n a.tv.c, .slice a.iv.a a.iv.n a.iv.c] 57)
  obtain ⟨c0, c1, -⟩ := atr_cells (heap_alloc_new w (.cells #[.string a.name, .int .i64 a.kind, .int .i64 a.f, .int .i64 a.i, .string a.s, .int .i64 a.ty, .slice a.dv.a a.dv.n a.dv.c, .slice a.tv.a a.tv.n a.tv.c, .slice a.iv.a a.iv.n a.iv.c] 57))
  have cp := one_cell (box_kept hp g0)
  have cq := one_cell (box_kept hq g0)
  have G0 := hide g0
  clear hp hq g0
  unfold aval
  by_cases hn : (a.name.toList == nm.toList) = true
  · go_enter Tryz.func170, Tryz.ntmps170
    go_wp2
    go_ret
    exact ⟨by simp [isA, hn], G0.out⟩
  · have hn' : (a.name.toList == nm.toList) = false := by simpa using hn
    clear hn
    go_enter Tryz.func170, Tryz.ntmps170
    go_wp2
    go_ret
    exact ⟨by simp [isA, hn'], G0.out⟩

/-- The place of the first one that is so, or none. -/
def place {α : Type} (P : α → Bool) : List α → Nat → Int
  | [], _ => -1
  | x :: l, k => if P x then k else place P l (k + 1)

theorem place_at {α : Type} {P : α → Bool} {xs : List α} {k : Nat} (hk : k < xs.length) (h : P xs[k] = true) : place P (xs.drop k) k = k := by
  rw [List.drop_eq_getElem_cons hk, place, if_pos h]

theorem place_past {α : Type} {P : α → Bool} {xs : List α} {k : Nat} (hk : k < xs.length) (h : P xs[k] = false) : place P (xs.drop k) k = place P (xs.drop (k + 1)) (k + 1) := by
  rw [List.drop_eq_getElem_cons hk, place, if_neg (by rw [h]; decide)]

set_option maxRecDepth 100000 in
set_option maxHeartbeats 1600000 in
theorem index_named (v : Value) (xs : List Atr) (p q : Nat) (nm : ByteArray) (kd : Int) (w : World) (hv : IsAttrs w v xs) (hp : w.heap[p]? = some (.cells #[.string nm] 9 (0, 0))) (hq : w.heap[q]? = some (.cells #[.int .i64 kd] 3 (0, 0))) :
    Calls Tryz.prog 169 #[v, .func (.func 170) #[] #[.pointer (some ⟨p, 0, none⟩), .pointer (some ⟨q, 0, none⟩)]] w fun e w' => e = .returned (.int .i64 (place (isA nm kd) xs 0)) ∧ w.grownBy w' none := by
  have HV := hide hv
  obtain ⟨ao, cap, rfl, h1, h2, h3⟩ := hv.form
  have HP := hide hp
  have HQ := hide hq
  clear hv hp hq
  go_enter Tryz.func169, Tryz.ntmps169
  go_wp2_with fail
  go_loopw [8] (fun i wr => w.grownBy wr none ∧ ∃ k : Nat, k ≤ xs.length ∧ i = .int .i64 k ∧ place (isA nm kd) xs 0 = place (isA nm kd) (xs.drop k) k) (fun i _ => xs.length - (intOf i).toNat)
  case atStart => exact ⟨grown_refl _, 0, Nat.zero_le _, rfl, rfl⟩
  case round =>
    obtain ⟨hg, k, hk, rfl, hpl⟩ := hrel
    have HPL := hide hpl
    clear hpl
    by_cases hlt : k < xs.length
    · have HVk := HV.out.more hg
      obtain ⟨b, off, rfl⟩ := HVk.addr hlt
      obtain ⟨a0, a1, a2, a3, a4, a5, a6, a7, a8⟩ := HVk.attr k hlt
      have NA := hide (fun (wx : World) (hx : w.grownBy wx none) => named1_any xs[k] p q nm kd wx (box_kept HP.out hx) (box_kept HQ.out hx))
      clear HVk
      go_wp2_with fail
      refine (NA.out wr hg).mono ?_
      rintro e w1 ⟨rfl, hg1⟩
      have g1 := grown_trans hg hg1
      cases ht : isA nm kd xs[k] with
      | true =>
        have HT := hide ht
        clear ht
        go_wp2
        go_ret
        exact ⟨by rw [HPL.out, place_at hlt HT.out]; rfl, g1⟩
      | false =>
        have HT := hide ht
        clear ht
        go_wp2
        go_roundw
        case rel => exact ⟨g1, k + 1, by omega, by go_num, by rw [HPL.out, place_past hlt HT.out]⟩
        case measure => simp [intOf]; omega
    · obtain rfl : k = xs.length := by omega
      go_wp2
      go_ret
      exact ⟨by rw [HPL.out, List.drop_of_length_le (Nat.le_refl _)]; rfl, hg⟩

theorem place_cases {α : Type} (P : α → Bool) : ∀ (xs : List α) (k : Nat), (place P xs k = -1 ∧ xs.find? P = none) ∨ ∃ j, ∃ hj : j < xs.length, place P xs k = ((k + j : Nat) : Int) ∧ xs.find? P = some xs[j]
  | [], k => Or.inl ⟨rfl, rfl⟩
  | x :: l, k => by
    cases h : P x with
    | true => exact Or.inr ⟨0, by simp, by simp [place, h], by simp [h]⟩
    | false =>
      rcases place_cases P l (k + 1) with ⟨e1, e2⟩ | ⟨j, hj, e1, e2⟩
      · exact Or.inl ⟨by simp [place, h, e1], by simp [h, e2]⟩
      · exact Or.inr ⟨j + 1, by simpa using hj, by simp only [place, h, e1]; simp; omega, by simp [h, e2]⟩

/-- A node, as its cells have it. -/
structure Nod where
  op : ByteArray
  name : ByteArray
  iv : Sl
  out : ByteArray
  av : Sl

def nval (n : Nod) : Value := .agg #[.string n.op, .string n.name, .slice n.iv.a n.iv.n n.iv.c, .string n.out, .slice n.av.a n.av.n n.av.c]

theorem nod_cells {w : World} {B : Nat} {n : Nod} (hb : w.heap[B]? = some (.cells #[.string n.op, .string n.name, .slice n.iv.a n.iv.n n.iv.c, .string n.out, .slice n.av.a n.av.n n.av.c] 25 (0, 0))) :
    w.cell? ⟨B, 0, none⟩ = some (.string n.op) ∧ w.cell? ⟨B, 1, none⟩ = some (.string n.name) ∧ w.cell? ⟨B, 2, none⟩ = some (.slice n.iv.a n.iv.n n.iv.c) ∧ w.cell? ⟨B, 3, none⟩ = some (.string n.out) ∧ w.cell? ⟨B, 4, none⟩ = some (.slice n.av.a n.av.n n.av.c) :=
  ⟨(cell_of_row _ _ 0 _ _ (0, 0) hb).trans rfl, (cell_of_row _ _ 1 _ _ (0, 0) hb).trans rfl, (cell_of_row _ _ 2 _ _ (0, 0) hb).trans rfl, (cell_of_row _ _ 3 _ _ (0, 0) hb).trans rfl, (cell_of_row _ _ 4 _ _ (0, 0) hb).trans rfl⟩

def noAtr : Atr := ⟨⟨#[]⟩, 0, 0, 0, ⟨#[]⟩, 0, ⟨none, 0, 0⟩, ⟨none, 0, 0⟩, ⟨none, 0, 0⟩⟩

theorem grown_same {a b c : World} {g : Nat} (h : a.grownBy b (some g)) (k : b.grownBy c (some g)) : a.grownBy c (some g) :=
  ⟨k.os.trans h.os, k.tape.trans h.tape, k.output.trans h.output, Nat.le_trans h.size k.size, fun j hj hne => (k.block j (Nat.lt_of_lt_of_le hj h.size) hne).trans (h.block j hj hne)⟩

abbrev put9 (w : World) (B : Nat) (a0 a1 a2 a3 a4 a5 a6 a7 a8 : Value) : World :=
  ((((((((w.setCell ⟨B, 0, none⟩ a0).setCell ⟨B, 1, none⟩ a1).setCell ⟨B, 2, none⟩ a2).setCell ⟨B, 3, none⟩ a3).setCell ⟨B, 4, none⟩ a4).setCell ⟨B, 5, none⟩ a5).setCell ⟨B, 6, none⟩ a6).setCell ⟨B, 7, none⟩ a7).setCell ⟨B, 8, none⟩ a8

/-- The nine cells of an attribute, written anew. -/
theorem store9 {w w3 : World} {B : Nat} {z0 z1 z2 z3 z4 z5 z6 z7 z8 : Value} (a0 a1 a2 a3 a4 a5 a6 a7 a8 : Value) (hg : w.grownBy w3 none) (hB : w.heap.size ≤ B) (hb : w3.heap[B]? = some (.cells #[z0, z1, z2, z3, z4, z5, z6, z7, z8] 57 (0, 0))) :
    (put9 w3 B a0 a1 a2 a3 a4 a5 a6 a7 a8).heap[B]? = some (.cells #[a0, a1, a2, a3, a4, a5, a6, a7, a8] 57 (0, 0)) ∧ w.grownBy (put9 w3 B a0 a1 a2 a3 a4 a5 a6 a7 a8) none := by
  have h1 := heap_setCell_same w3 B 0 _ _ a0 hb
  have h2 := heap_setCell_same _ B 1 _ _ a1 h1
  have h3 := heap_setCell_same _ B 2 _ _ a2 h2
  have h4 := heap_setCell_same _ B 3 _ _ a3 h3
  have h5 := heap_setCell_same _ B 4 _ _ a4 h4
  have h6 := heap_setCell_same _ B 5 _ _ a5 h5
  have h7 := heap_setCell_same _ B 6 _ _ a6 h6
  have h8 := heap_setCell_same _ B 7 _ _ a7 h7
  have h9 := heap_setCell_same _ B 8 _ _ a8 h8
  have g : ∀ (x : World) (j : Nat) (v : Value), x.grownBy (x.setCell ⟨B, j, none⟩ v) (some B) := fun x j v =>
    ⟨rfl, rfl, rfl, by simp [World.setCell], fun k _ hk => Below.heap_setCell _ _ _ _ (fun e => hk (by rw [e]))⟩
  have g9 := grown_same (grown_same (grown_same (grown_same (grown_same (grown_same (grown_same (grown_same (g w3 0 a0) (g _ 1 a1)) (g _ 2 a2)) (g _ 3 a3)) (g _ 4 a4)) (g _ 5 a5)) (g _ 6 a6)) (g _ 7 a7)) (g _ 8 a8)
  exact ⟨by simpa using h9, grown_trans_row hg g9 (fun r e => by cases e; exact hB)⟩

theorem atr_frozen {w : World} {B : Nat} {z0 z1 z2 z3 z4 z5 z6 z7 z8 : Value} (hb : w.heap[B]? = some (.cells #[z0, z1, z2, z3, z4, z5, z6, z7, z8] 57 (0, 0))) :
    w.frozen? ⟨B, 0, none⟩ = false ∧ w.frozen? ⟨B, 1, none⟩ = false ∧ w.frozen? ⟨B, 2, none⟩ = false ∧ w.frozen? ⟨B, 3, none⟩ = false ∧ w.frozen? ⟨B, 4, none⟩ = false ∧ w.frozen? ⟨B, 5, none⟩ = false ∧ w.frozen? ⟨B, 6, none⟩ = false ∧ w.frozen? ⟨B, 7, none⟩ = false ∧ w.frozen? ⟨B, 8, none⟩ = false :=
  ⟨frozen_of_row w B 0 _ _ hb, frozen_of_row w B 1 _ _ hb, frozen_of_row w B 2 _ _ hb, frozen_of_row w B 3 _ _ hb, frozen_of_row w B 4 _ _ hb, frozen_of_row w B 5 _ _ hb, frozen_of_row w B 6 _ _ hb, frozen_of_row w B 7 _ _ hb, frozen_of_row w B 8 _ _ hb⟩

theorem attrInfo : (Tryz.prog.info? 57).map (·.size) = some 9 := by kernel_rfl
theorem ret_atr {fn : Func} {p u : Tmp} (h : fn.results = #[.cell p 57, .tmp u]) (tmps : Array Value) (w : World) (B : Nat) (hp : tmps.getD p undef = .pointer (some ⟨B, 0, none⟩)) {a0 a1 a2 a3 a4 a5 a6 a7 a8 : Value}
    (hb : w.heap[B]? = some (.cells #[a0, a1, a2, a3, a4, a5, a6, a7, a8] 57 (0, 0))) : (results fn tmps).run Tryz.prog w = .ok (.tuple #[.agg #[a0, a1, a2, a3, a4, a5, a6, a7, a8], tmps.getD u undef]) w := by
  have hl := run_loadVar_row (P := Tryz.prog) w B _ 57 #[a0, a1, a2, a3, a4, a5, a6, a7, a8] (0, 0) _ hb Tryz.underlying57 rfl (by rw [attrInfo]; rfl)
  rw [results_cell_tmp h, hp]
  simp [asAddr, hl, Result.andThen]

theorem two_boxes (w : World) (o o' : Obj) : ((w.alloc o).alloc o').heap[w.heap.size]? = some o ∧ ((w.alloc o).alloc o').heap[w.heap.size + 1]? = some o' := by
  refine ⟨box_kept (heap_alloc_new w o) (grown_new _ _), ?_⟩
  have := heap_alloc_new (w.alloc o) o'
  simpa using this

set_option maxRecDepth 100000 in
set_option maxHeartbeats 1600000 in
theorem first_named (n : Nod) (xs : List Atr) (p q : Nat) (nm : ByteArray) (kd : Int) (w : World) (hv : IsAttrs w n.av.v xs) (hp : w.heap[p]? = some (.cells #[.string nm] 9 (0, 0))) (hq : w.heap[q]? = some (.cells #[.int .i64 kd] 3 (0, 0))) :
    Calls Tryz.prog 86 #[nval n, .func (.func 170) #[] #[.pointer (some ⟨p, 0, none⟩), .pointer (some ⟨q, 0, none⟩)]] w fun e w' => e = .returned (.tuple #[aval ((xs.find? (isA nm kd)).getD noAtr), .bool (xs.find? (isA nm kd)).isSome]) ∧ w.grownBy w' none := by
  obtain ⟨op, nam, ⟨ia, il, ic⟩, out, ⟨ao, al, cap⟩⟩ := n
  simp only at hv
  obtain ⟨ao', cap', hav, h1, h2, h3⟩ := hv.form
  obtain ⟨rfl, rfl, rfl⟩ : ao = ao' ∧ al = xs.length ∧ cap = cap' := by simpa [Sl.v] using hav
  have HV := hide hv
  clear hv hav
  unfold nval
  obtain ⟨w0, hw0⟩ : ∃ w0, w0 = (w.alloc (.cells #[.string op, .string nam, .slice ia il ic, .string out, .slice ao xs.length cap] 25)).alloc (.cells #[.string ⟨#[]⟩, .int .i64 0, .int .i64 0, .int .i64 0, .string ⟨#[]⟩, .int .i64 0, .slice none 0 0, .slice none 0 0, .slice none 0 0] 57) := ⟨_, rfl⟩
  have g0 : w.grownBy w0 none := by rw [hw0]; exact grown_trans (grown_new _ _) (grown_new _ _)
  have hbx := two_boxes w (.cells #[.string op, .string nam, .slice ia il ic, .string out, .slice ao xs.length cap] 25) (.cells #[.string ⟨#[]⟩, .int .i64 0, .int .i64 0, .int .i64 0, .string ⟨#[]⟩, .int .i64 0, .slice none 0 0, .slice none 0 0, .slice none 0 0] 57)
  rw [← hw0] at hbx
  have BX := hide hbx
  have IX := hide (index_named _ xs p q nm kd w0 (HV.out.more g0) (box_kept hp g0) (box_kept hq g0))
  clear hp hq hbx
  go_enter Tryz.func86, Tryz.ntmps86
  go_wp2_with fail
  rw [← hw0]
  clear hw0
  refine IX.out.mono ?_
  rintro e w1 ⟨rfl, hg1⟩
  have g1 := grown_trans g0 hg1
  have B1 := hide (And.intro (box_kept BX.out.1 hg1) (box_kept BX.out.2 hg1))
  obtain ⟨-, -, -, -, n4⟩ := nod_cells (n := ⟨op, nam, ⟨ia, il, ic⟩, out, ⟨ao, xs.length, cap⟩⟩) B1.out.1
  obtain ⟨f0, f1, f2, f3, f4, f5, f6, f7, f8⟩ := atr_frozen B1.out.2
  obtain ⟨k0, k1, k2, k3, k4, k5, k6, k7, k8⟩ := atr_cells (a := noAtr) B1.out.2
  rcases place_cases (isA nm kd) xs 0 with ⟨e1, e2⟩ | ⟨j, hj, e1, e2⟩
  · rw [e1]
    have E2 := hide e2
    obtain ⟨hX, gX⟩ := store9 (.string ⟨#[]⟩) (.int .i64 0) (.int .i64 0) (.int .i64 0) (.string ⟨#[]⟩) (.int .i64 0) (.slice none 0 0) (.slice none 0 0) (.slice none 0 0) g1 (show w.heap.size ≤ w.heap.size + 1 by omega) B1.out.2
    have HX := hide hX
    have GX := hide gX
    clear hX gX e1 e2
    go_wp2
    refine bodyPost_ret (ret_atr rfl _ _ (w.heap.size + 1) rfl HX.out) rfl ?_
    exact ⟨by rw [E2.out]; rfl, GX.out⟩
  · rw [e1]
    have E2 := hide e2
    have HV1 := HV.out.more g1
    obtain ⟨b, off, rfl⟩ := HV1.addr hj
    obtain ⟨a0, a1, a2, a3, a4, a5, a6, a7, a8⟩ := HV1.attr j hj
    obtain ⟨hX, gX⟩ := store9 (.string xs[j].name) (.int .i64 xs[j].kind) (.int .i64 xs[j].f) (.int .i64 xs[j].i) (.string xs[j].s) (.int .i64 xs[j].ty) (.slice xs[j].dv.a xs[j].dv.n xs[j].dv.c) (.slice xs[j].tv.a xs[j].tv.n xs[j].tv.c) (.slice xs[j].iv.a xs[j].iv.n xs[j].iv.c) g1 (show w.heap.size ≤ w.heap.size + 1 by omega) B1.out.2
    have HX := hide hX
    have GX := hide gX
    clear hX gX e1 e2 HV1
    rw [show ((0 + j : Nat) : Int) = (j : Int) by simp]
    go_wp2
    refine bodyPost_ret (ret_atr rfl _ _ (w.heap.size + 1) rfl HX.out) rfl ?_
    exact ⟨by rw [E2.out]; rfl, GX.out⟩
end Go.Proofs.YtdcbjikjeicgbaaGreatDoor

/- A text up to its first comma, by the walk. -/
namespace Go.Proofs.YtdcbjikjeicgbaaGreatDoor
open Go.RowKit

set_option maxRecDepth 100000 in
set_option maxHeartbeats 1600000 in
theorem comma_any (s : ByteArray) (w : World) :
    Calls Tryz.prog 227 #[.string s, .int .u8 44] w fun e w' => e = .returned (.int .i64 (Lib.indexByte s.data.toList 44)) ∧ w.grownBy w' none := by
  go_enter Tryz.func227, Tryz.ntmps227
  go_wp2
  rw [run_callFunc_extern Tryz.func236 (by kernel_rfl) (by kernel_rfl) (by kernel_rfl) (e := Extern.BytealgIndexByte.indexByte) (by kernel_rfl), Lib.run_indexByteString]
  simp only [Result.andThen]
  rw [Oper.upon_value]
  go_wp2
  go_ret
  exact ⟨rfl, grown_refl _⟩

theorem bytes_toList (s : ByteArray) : s.toList = s.data.toList := ByteArray.toList_eq s

set_option maxRecDepth 100000 in
set_option maxHeartbeats 1600000 in
theorem index_comma (s : ByteArray) (w : World) :
    Calls Tryz.prog 211 #[.string s, .string ⟨#[44]⟩] w fun e w' => e = .returned (.int .i64 (Lib.indexByte s.data.toList 44)) ∧ w.grownBy w' none := by
  have CM := hide (fun wx => comma_any s wx)
  by_cases h : (([44] : List UInt8) == s.toList) = true
  · go_enter Tryz.func211, Tryz.ntmps211
    go_wp2_with fail
    go_ret
    refine ⟨?_, grown_refl _⟩
    have h1 : [44] = s.data.toList := by rw [← bytes_toList]; simpa using h
    rw [← h1]
    rfl
  · have h' : (([44] : List UInt8) == s.toList) = false := by simpa using h
    clear h
    go_enter Tryz.func211, Tryz.ntmps211
    go_wp2_with fail
    refine (CM.out w).mono ?_
    rintro e w1 ⟨rfl, hg⟩
    go_wp2
    go_ret
    exact ⟨rfl, hg⟩

/-- How a text is cut at its first comma. -/
def CutAt (s : ByteArray) (e : Ending) : Prop :=
  (∃ i : Nat, i < s.size ∧ s.data.toList[i]? = some 44 ∧ (∀ k, k < i → s.data.toList[k]? ≠ some 44) ∧ e = .returned (.tuple #[.string (s.extract 0 i), .string (s.extract (i + 1) s.size), .bool true])) ∨
  ((∀ k : Nat, s.data.toList[k]? ≠ some 44) ∧ e = .returned (.tuple #[.string s, .string ⟨#[]⟩, .bool false]))

set_option maxRecDepth 100000 in
set_option maxHeartbeats 1600000 in
theorem lite_cut (s : ByteArray) (w : World) (hs : s.size ≤ 9223372036854775807) :
    Calls Tryz.prog 188 #[.string s, .string ⟨#[44]⟩] w fun e w' => CutAt s e ∧ w.grownBy w' none := by
  have IC := hide (fun wx => index_comma s wx)
  have h1 := Lib.indexByte_ge s.data.toList 44
  by_cases hi : Lib.indexByte s.data.toList 44 = -1
  · have HI := hide hi
    rw [hi] at IC
    clear hi h1
    go_enter Tryz.func188, Tryz.ntmps188
    go_wp2_with fail
    refine (IC.out _).mono ?_
    rintro e w1 ⟨rfl, hg⟩
    go_wp2
    go_ret3
    exact ⟨Or.inr ⟨Lib.indexByte_none HI.out, rfl⟩, hg⟩
  · obtain ⟨i, hi'⟩ : ∃ i : Nat, Lib.indexByte s.data.toList 44 = i := ⟨(Lib.indexByte s.data.toList 44).toNat, by omega⟩
    obtain ⟨p1, p2⟩ := Lib.indexByte_some hi'
    have hlt : i < s.size := by
      have := (List.getElem?_eq_some_iff.1 p1).1
      simpa using this
    have P1 := hide p1
    have P2 := hide p2
    rw [hi'] at IC
    clear hi hi' h1 p1 p2
    go_enter Tryz.func188, Tryz.ntmps188
    go_wp2_with fail
    refine (IC.out _).mono ?_
    rintro e w1 ⟨rfl, hg⟩
    go_wp2
    go_region
    all_goals go_wp2
    all_goals go_ret3
    all_goals exact ⟨Or.inl ⟨i, hlt, P1.out, P2.out, rfl⟩, grown_drew hg⟩

set_option maxRecDepth 100000 in
set_option maxHeartbeats 1600000 in
theorem cut_any (s : ByteArray) (w : World) (hs : s.size ≤ 9223372036854775807) :
    Calls Tryz.prog 117 #[.string s, .string ⟨#[44]⟩] w fun e w' => CutAt s e ∧ w.grownBy w' none := by
  have LC := hide (lite_cut s w hs)
  clear hs
  go_enter Tryz.func117, Tryz.ntmps117
  go_wp2_with fail
  refine LC.out.mono ?_
  rintro e w1 ⟨hc, hg⟩
  have HC := hide hc
  rcases hc with ⟨i, -, -, -, rfl⟩ | ⟨-, rfl⟩
  · go_wp2
    go_ret3
    exact ⟨HC.out, hg⟩
  · go_wp2
    go_ret3
    exact ⟨HC.out, hg⟩
end Go.Proofs.YtdcbjikjeicgbaaGreatDoor

/- strings.Clone, by the walk: the same bytes, in memory of its own. -/
namespace Go.Proofs.YtdcbjikjeicgbaaGreatDoor
open Go.RowKit

theorem infoByte : (Tryz.prog.info? 5).map (fun i => (i.zero, i.size, i.bytes)) = some (some (.int .u8 0), 1, 1) := by kernel_rfl

set_option maxHeartbeats 4000000 in
set_option maxRecDepth 100000 in
theorem clonelite_any (s : ByteArray) (w : World) (hlim : s.size ≤ 281474976710656) :
    Calls Tryz.prog 189 #[.string s] w fun e w' => e = .returned (.string s) ∧ Below w.heap.size w w' := by
  by_cases h0 : s.size = 0
  · have hs : s = ⟨#[]⟩ := ByteArray.ext (Array.eq_empty_of_size_eq_zero h0)
    subst hs
    go_enter Tryz.func189, Tryz.ntmps189
    go_wp2
    go_ret
    exact ⟨rfl, Below.refl _ _⟩
  · obtain ⟨i0, hi, hz0, hz1, hz2⟩ := info_parts infoByte
    have hinfo : (Tryz.prog.info? 5).map (·.size) = some 1 := by rw [hi]; simp [hz1]
    have hco : Tryz.prog.cellsOf 5 = 1 := by simp [Program.cellsOf, hi, hz1]
    obtain ⟨M, hM⟩ : ∃ M, M = madeCells (Value.int .u8 0).cells (((s.size : Nat) : Int).toNat * i0.size) := ⟨_, rfl⟩
    have hMs : M.size = s.size := by rw [hM, size_madeCells, hz1]; simp
    have hmk : ∀ W : World, (Instr.makeSlice 218 (.int .i64 (s.size : Int)) (.int .i64 (s.size : Int))).run Tryz.prog W = .ok (.slice (some ⟨W.heap.size, 0, none⟩) s.size s.size) (W.alloc (.cells M 5)) := fun W => by
      have h := run_make (P := Tryz.prog) W 218 5 i0 (.int .u8 0) Tryz.underlying218 hi hz0 .i64 .i64 (s.size : Int) (s.size : Int) (by omega) (by omega) (by rw [hz2]; omega) (by omega)
      rw [← hM] at h
      simpa using h
    clear hM
    have hcp := Lib.run_copy_row_string (P := Tryz.prog) (w.alloc (.cells M 5)) 218 9 3 5 w.heap.size 0 s.size s.size s M 5 Tryz.underlying218 hinfo (heap_alloc_new w _) (Nat.le_refl _) (by omega)
    obtain ⟨Y, hY⟩ : ∃ Y, Y = (M.toList.take 0 ++ Lib.byteCells s.data.toList ++ M.toList.drop (0 + s.size)).toArray := ⟨_, rfl⟩
    rw [← hY] at hcp
    have hYl : Y.toList = Lib.byteCells s.data.toList := by
      rw [hY, List.toList_toArray, List.take_zero, List.nil_append, List.drop_of_length_le (by rw [Array.length_toList]; omega), List.append_nil]
    have hgY : ((w.alloc (.cells M 5)).setRow w.heap.size Y).heap[w.heap.size]? = some (.cells Y 5 (0, 0)) := setRow_heap _ _ M _ 5 (0, 0) (heap_alloc_new w _)
    have hne : s.data.toList ≠ [] := fun e => h0 (by rw [Lib.size_eq, e]; rfl)
    have hYs : Y.size = s.size := by rw [← Array.length_toList, hYl, Lib.byteCells_length, ← Lib.size_eq]
    have hUS := Lib.run_unsafeString_row (P := Tryz.prog) ((w.alloc (.cells M 5)).setRow w.heap.size Y) 219 3 9 5 Tryz.underlying219 hco w.heap.size Y.size (by unfold World.shape?; rw [hgY]) s.data.toList hne (by rw [← Lib.size_eq]; omega) (by rw [← Lib.size_eq]; omega)
      (fun j x hx => Lib.cells_of_row hgY Y.size j _ (by rw [List.take_of_length_le (by rw [Array.length_toList]; exact Nat.le_refl _), hYl]; simp [Lib.byteCells, hx]))
    rw [← Lib.size_eq] at hUS
    clear hY
    go_enter Tryz.func189, Tryz.ntmps189
    go_wp2
    go_ret
    have hb1 : Below w.heap.size w (w.alloc (.cells M 5)) := (Below.refl _ w).alloc (Nat.le_refl _) _
    have hb2 : Below w.heap.size (w.alloc (.cells M 5)) ((w.alloc (.cells M 5)).setRow w.heap.size Y) := ⟨rfl, rfl, rfl, by simp, fun k hk => setRow_other _ _ _ _ (by omega)⟩
    exact ⟨rfl, Lib.below_freeze (hb1.trans hb2) (p := ⟨w.heap.size, 0, none⟩) (Nat.le_refl _) _⟩

theorem below_grown {w w' : World} (h : Below w.heap.size w w') : w.grownBy w' none := ⟨h.os, h.tape, h.output, h.size, fun k hk _ => h.block k hk⟩

theorem strclone_any (s : ByteArray) (w : World) (hlim : s.size ≤ 281474976710656) :
    Calls Tryz.prog 119 #[.string s] w fun e w' => e = .returned (.string s) ∧ w.grownBy w' none := by
  go_enter Tryz.func119, Tryz.ntmps119
  go_wp2_with fail
  refine (clonelite_any s w hlim).mono ?_
  rintro e w1 ⟨rfl, hb⟩
  go_wp2
  go_ret
  exact ⟨rfl, below_grown hb⟩
end Go.Proofs.YtdcbjikjeicgbaaGreatDoor

/- Whether an operator is one of one, by the walk over the package's list (mkOne.py). -/
namespace Go.Proofs.YtdcbjikjeicgbaaGreatDoor
open Go.RowKit

/-- The operators of one. -/
def ones : List (List UInt8) := [[73, 100, 101, 110, 116, 105, 116, 121], [78, 101, 103], [65, 98, 115], [78, 111, 116], [82, 101, 108, 117], [83, 113, 114, 116], [70, 108, 111, 111, 114], [69, 120, 112], [83, 105, 103, 109, 111, 105, 100], [84, 97, 110, 104]]

/-- The package's list lies where it was laid. -/
def Laid (w : World) : Prop :=
  w.cell? ⟨0, 0, none⟩ = some (.string ⟨#[73, 100, 101, 110, 116, 105, 116, 121]⟩) ∧ w.cell? ⟨0, 1, none⟩ = some (.string ⟨#[78, 101, 103]⟩) ∧ w.cell? ⟨0, 2, none⟩ = some (.string ⟨#[65, 98, 115]⟩) ∧ w.cell? ⟨0, 3, none⟩ = some (.string ⟨#[78, 111, 116]⟩) ∧ w.cell? ⟨0, 4, none⟩ = some (.string ⟨#[82, 101, 108, 117]⟩) ∧ w.cell? ⟨0, 5, none⟩ = some (.string ⟨#[83, 113, 114, 116]⟩) ∧ w.cell? ⟨0, 6, none⟩ = some (.string ⟨#[70, 108, 111, 111, 114]⟩) ∧ w.cell? ⟨0, 7, none⟩ = some (.string ⟨#[69, 120, 112]⟩) ∧ w.cell? ⟨0, 8, none⟩ = some (.string ⟨#[83, 105, 103, 109, 111, 105, 100]⟩) ∧ w.cell? ⟨0, 9, none⟩ = some (.string ⟨#[84, 97, 110, 104]⟩)

theorem Laid.more {w w' : World} (h : Laid w) (hg : w.grownBy w' none) : Laid w' := by
  have hb : 0 < w.heap.size := World.block_lt_of_cell? w _ h.1
  have e : ∀ j, w'.cell? ⟨0, j, none⟩ = w.cell? ⟨0, j, none⟩ := fun j => World.cell?_of_block (hg.block 0 hb (by simp))
  unfold Laid
  simp only [e]
  exact h

theorem any_step {l : List (List UInt8)} {f : List UInt8 → Bool} {k : Nat} {x : List UInt8} (h : (l.take k).any f = false) (hx : l[k]? = some x) (hf : f x = false) : (l.take (k + 1)).any f = false := by
  rw [List.take_add_one, List.any_append, h, hx]
  simp [hf]

def isOne (s : ByteArray) : Bool := ones.any (fun n => n == s.toList)

set_option maxRecDepth 100000 in
set_option maxHeartbeats 6400000 in
theorem ofone_any (s : ByteArray) (w : World) (hl : Laid w) :
    Calls Tryz.prog 118 #[.string s] w fun e w' => e = .returned (.bool (isOne s)) ∧ w.grownBy w' none := by
  obtain ⟨c0, c1, c2, c3, c4, c5, c6, c7, c8, c9⟩ := hl
  go_enter Tryz.func118, Tryz.ntmps118
  go_wp2_with fail
  clear c0 c1 c2 c3 c4 c5 c6 c7 c8 c9
  go_loopw [6] (fun i wr => w.grownBy wr none ∧ ∃ k : Nat, k ≤ 10 ∧ i = .int .i64 k ∧ (ones.take k).any (fun n => n == s.toList) = false) (fun i _ => 10 - (intOf i).toNat)
  case atStart => exact ⟨grown_refl _, 0, by omega, rfl, rfl⟩
  case round =>
    obtain ⟨hg, k, hk, rfl, hno⟩ := hrel
    have HNO := hide hno
    clear hno
    obtain rfl | rfl | rfl | rfl | rfl | rfl | rfl | rfl | rfl | rfl | rfl : k = 0 ∨ k = 1 ∨ k = 2 ∨ k = 3 ∨ k = 4 ∨ k = 5 ∨ k = 6 ∨ k = 7 ∨ k = 8 ∨ k = 9 ∨ k = 10 := by omega
    · have ix : ∀ W, (Instr.index 207 (.agg #[.string ⟨#[73, 100, 101, 110, 116, 105, 116, 121]⟩, .string ⟨#[78, 101, 103]⟩, .string ⟨#[65, 98, 115]⟩, .string ⟨#[78, 111, 116]⟩, .string ⟨#[82, 101, 108, 117]⟩, .string ⟨#[83, 113, 114, 116]⟩, .string ⟨#[70, 108, 111, 111, 114]⟩, .string ⟨#[69, 120, 112]⟩, .string ⟨#[83, 105, 103, 109, 111, 105, 100]⟩, .string ⟨#[84, 97, 110, 104]⟩]) (.int .i64 0)).run Tryz.prog W = .ok (.string ⟨#[73, 100, 101, 110, 116, 105, 116, 121]⟩) W := fun _ => by kernel_rfl
      by_cases h : (([73, 100, 101, 110, 116, 105, 116, 121] : List UInt8) == s.toList) = true
      · have H := hide h
        go_wp2
        go_ret
        exact ⟨by have h1 := H.out; simp [isOne, ones, eq_of_beq h1], hg⟩
      · have h' : (([73, 100, 101, 110, 116, 105, 116, 121] : List UInt8) == s.toList) = false := by simpa using h
        have H := hide h'
        clear h
        go_wp2
        go_roundw
        case rel => exact ⟨hg, 1, by omega, by go_num, any_step HNO.out rfl H.out⟩
        case measure => simp [intOf]
    · have ix : ∀ W, (Instr.index 207 (.agg #[.string ⟨#[73, 100, 101, 110, 116, 105, 116, 121]⟩, .string ⟨#[78, 101, 103]⟩, .string ⟨#[65, 98, 115]⟩, .string ⟨#[78, 111, 116]⟩, .string ⟨#[82, 101, 108, 117]⟩, .string ⟨#[83, 113, 114, 116]⟩, .string ⟨#[70, 108, 111, 111, 114]⟩, .string ⟨#[69, 120, 112]⟩, .string ⟨#[83, 105, 103, 109, 111, 105, 100]⟩, .string ⟨#[84, 97, 110, 104]⟩]) (.int .i64 1)).run Tryz.prog W = .ok (.string ⟨#[78, 101, 103]⟩) W := fun _ => by kernel_rfl
      by_cases h : (([78, 101, 103] : List UInt8) == s.toList) = true
      · have H := hide h
        go_wp2
        go_ret
        exact ⟨by have h1 := H.out; simp [isOne, ones, eq_of_beq h1], hg⟩
      · have h' : (([78, 101, 103] : List UInt8) == s.toList) = false := by simpa using h
        have H := hide h'
        clear h
        go_wp2
        go_roundw
        case rel => exact ⟨hg, 2, by omega, by go_num, any_step HNO.out rfl H.out⟩
        case measure => simp [intOf]
    · have ix : ∀ W, (Instr.index 207 (.agg #[.string ⟨#[73, 100, 101, 110, 116, 105, 116, 121]⟩, .string ⟨#[78, 101, 103]⟩, .string ⟨#[65, 98, 115]⟩, .string ⟨#[78, 111, 116]⟩, .string ⟨#[82, 101, 108, 117]⟩, .string ⟨#[83, 113, 114, 116]⟩, .string ⟨#[70, 108, 111, 111, 114]⟩, .string ⟨#[69, 120, 112]⟩, .string ⟨#[83, 105, 103, 109, 111, 105, 100]⟩, .string ⟨#[84, 97, 110, 104]⟩]) (.int .i64 2)).run Tryz.prog W = .ok (.string ⟨#[65, 98, 115]⟩) W := fun _ => by kernel_rfl
      by_cases h : (([65, 98, 115] : List UInt8) == s.toList) = true
      · have H := hide h
        go_wp2
        go_ret
        exact ⟨by have h1 := H.out; simp [isOne, ones, eq_of_beq h1], hg⟩
      · have h' : (([65, 98, 115] : List UInt8) == s.toList) = false := by simpa using h
        have H := hide h'
        clear h
        go_wp2
        go_roundw
        case rel => exact ⟨hg, 3, by omega, by go_num, any_step HNO.out rfl H.out⟩
        case measure => simp [intOf]
    · have ix : ∀ W, (Instr.index 207 (.agg #[.string ⟨#[73, 100, 101, 110, 116, 105, 116, 121]⟩, .string ⟨#[78, 101, 103]⟩, .string ⟨#[65, 98, 115]⟩, .string ⟨#[78, 111, 116]⟩, .string ⟨#[82, 101, 108, 117]⟩, .string ⟨#[83, 113, 114, 116]⟩, .string ⟨#[70, 108, 111, 111, 114]⟩, .string ⟨#[69, 120, 112]⟩, .string ⟨#[83, 105, 103, 109, 111, 105, 100]⟩, .string ⟨#[84, 97, 110, 104]⟩]) (.int .i64 3)).run Tryz.prog W = .ok (.string ⟨#[78, 111, 116]⟩) W := fun _ => by kernel_rfl
      by_cases h : (([78, 111, 116] : List UInt8) == s.toList) = true
      · have H := hide h
        go_wp2
        go_ret
        exact ⟨by have h1 := H.out; simp [isOne, ones, eq_of_beq h1], hg⟩
      · have h' : (([78, 111, 116] : List UInt8) == s.toList) = false := by simpa using h
        have H := hide h'
        clear h
        go_wp2
        go_roundw
        case rel => exact ⟨hg, 4, by omega, by go_num, any_step HNO.out rfl H.out⟩
        case measure => simp [intOf]
    · have ix : ∀ W, (Instr.index 207 (.agg #[.string ⟨#[73, 100, 101, 110, 116, 105, 116, 121]⟩, .string ⟨#[78, 101, 103]⟩, .string ⟨#[65, 98, 115]⟩, .string ⟨#[78, 111, 116]⟩, .string ⟨#[82, 101, 108, 117]⟩, .string ⟨#[83, 113, 114, 116]⟩, .string ⟨#[70, 108, 111, 111, 114]⟩, .string ⟨#[69, 120, 112]⟩, .string ⟨#[83, 105, 103, 109, 111, 105, 100]⟩, .string ⟨#[84, 97, 110, 104]⟩]) (.int .i64 4)).run Tryz.prog W = .ok (.string ⟨#[82, 101, 108, 117]⟩) W := fun _ => by kernel_rfl
      by_cases h : (([82, 101, 108, 117] : List UInt8) == s.toList) = true
      · have H := hide h
        go_wp2
        go_ret
        exact ⟨by have h1 := H.out; simp [isOne, ones, eq_of_beq h1], hg⟩
      · have h' : (([82, 101, 108, 117] : List UInt8) == s.toList) = false := by simpa using h
        have H := hide h'
        clear h
        go_wp2
        go_roundw
        case rel => exact ⟨hg, 5, by omega, by go_num, any_step HNO.out rfl H.out⟩
        case measure => simp [intOf]
    · have ix : ∀ W, (Instr.index 207 (.agg #[.string ⟨#[73, 100, 101, 110, 116, 105, 116, 121]⟩, .string ⟨#[78, 101, 103]⟩, .string ⟨#[65, 98, 115]⟩, .string ⟨#[78, 111, 116]⟩, .string ⟨#[82, 101, 108, 117]⟩, .string ⟨#[83, 113, 114, 116]⟩, .string ⟨#[70, 108, 111, 111, 114]⟩, .string ⟨#[69, 120, 112]⟩, .string ⟨#[83, 105, 103, 109, 111, 105, 100]⟩, .string ⟨#[84, 97, 110, 104]⟩]) (.int .i64 5)).run Tryz.prog W = .ok (.string ⟨#[83, 113, 114, 116]⟩) W := fun _ => by kernel_rfl
      by_cases h : (([83, 113, 114, 116] : List UInt8) == s.toList) = true
      · have H := hide h
        go_wp2
        go_ret
        exact ⟨by have h1 := H.out; simp [isOne, ones, eq_of_beq h1], hg⟩
      · have h' : (([83, 113, 114, 116] : List UInt8) == s.toList) = false := by simpa using h
        have H := hide h'
        clear h
        go_wp2
        go_roundw
        case rel => exact ⟨hg, 6, by omega, by go_num, any_step HNO.out rfl H.out⟩
        case measure => simp [intOf]
    · have ix : ∀ W, (Instr.index 207 (.agg #[.string ⟨#[73, 100, 101, 110, 116, 105, 116, 121]⟩, .string ⟨#[78, 101, 103]⟩, .string ⟨#[65, 98, 115]⟩, .string ⟨#[78, 111, 116]⟩, .string ⟨#[82, 101, 108, 117]⟩, .string ⟨#[83, 113, 114, 116]⟩, .string ⟨#[70, 108, 111, 111, 114]⟩, .string ⟨#[69, 120, 112]⟩, .string ⟨#[83, 105, 103, 109, 111, 105, 100]⟩, .string ⟨#[84, 97, 110, 104]⟩]) (.int .i64 6)).run Tryz.prog W = .ok (.string ⟨#[70, 108, 111, 111, 114]⟩) W := fun _ => by kernel_rfl
      by_cases h : (([70, 108, 111, 111, 114] : List UInt8) == s.toList) = true
      · have H := hide h
        go_wp2
        go_ret
        exact ⟨by have h1 := H.out; simp [isOne, ones, eq_of_beq h1], hg⟩
      · have h' : (([70, 108, 111, 111, 114] : List UInt8) == s.toList) = false := by simpa using h
        have H := hide h'
        clear h
        go_wp2
        go_roundw
        case rel => exact ⟨hg, 7, by omega, by go_num, any_step HNO.out rfl H.out⟩
        case measure => simp [intOf]
    · have ix : ∀ W, (Instr.index 207 (.agg #[.string ⟨#[73, 100, 101, 110, 116, 105, 116, 121]⟩, .string ⟨#[78, 101, 103]⟩, .string ⟨#[65, 98, 115]⟩, .string ⟨#[78, 111, 116]⟩, .string ⟨#[82, 101, 108, 117]⟩, .string ⟨#[83, 113, 114, 116]⟩, .string ⟨#[70, 108, 111, 111, 114]⟩, .string ⟨#[69, 120, 112]⟩, .string ⟨#[83, 105, 103, 109, 111, 105, 100]⟩, .string ⟨#[84, 97, 110, 104]⟩]) (.int .i64 7)).run Tryz.prog W = .ok (.string ⟨#[69, 120, 112]⟩) W := fun _ => by kernel_rfl
      by_cases h : (([69, 120, 112] : List UInt8) == s.toList) = true
      · have H := hide h
        go_wp2
        go_ret
        exact ⟨by have h1 := H.out; simp [isOne, ones, eq_of_beq h1], hg⟩
      · have h' : (([69, 120, 112] : List UInt8) == s.toList) = false := by simpa using h
        have H := hide h'
        clear h
        go_wp2
        go_roundw
        case rel => exact ⟨hg, 8, by omega, by go_num, any_step HNO.out rfl H.out⟩
        case measure => simp [intOf]
    · have ix : ∀ W, (Instr.index 207 (.agg #[.string ⟨#[73, 100, 101, 110, 116, 105, 116, 121]⟩, .string ⟨#[78, 101, 103]⟩, .string ⟨#[65, 98, 115]⟩, .string ⟨#[78, 111, 116]⟩, .string ⟨#[82, 101, 108, 117]⟩, .string ⟨#[83, 113, 114, 116]⟩, .string ⟨#[70, 108, 111, 111, 114]⟩, .string ⟨#[69, 120, 112]⟩, .string ⟨#[83, 105, 103, 109, 111, 105, 100]⟩, .string ⟨#[84, 97, 110, 104]⟩]) (.int .i64 8)).run Tryz.prog W = .ok (.string ⟨#[83, 105, 103, 109, 111, 105, 100]⟩) W := fun _ => by kernel_rfl
      by_cases h : (([83, 105, 103, 109, 111, 105, 100] : List UInt8) == s.toList) = true
      · have H := hide h
        go_wp2
        go_ret
        exact ⟨by have h1 := H.out; simp [isOne, ones, eq_of_beq h1], hg⟩
      · have h' : (([83, 105, 103, 109, 111, 105, 100] : List UInt8) == s.toList) = false := by simpa using h
        have H := hide h'
        clear h
        go_wp2
        go_roundw
        case rel => exact ⟨hg, 9, by omega, by go_num, any_step HNO.out rfl H.out⟩
        case measure => simp [intOf]
    · have ix : ∀ W, (Instr.index 207 (.agg #[.string ⟨#[73, 100, 101, 110, 116, 105, 116, 121]⟩, .string ⟨#[78, 101, 103]⟩, .string ⟨#[65, 98, 115]⟩, .string ⟨#[78, 111, 116]⟩, .string ⟨#[82, 101, 108, 117]⟩, .string ⟨#[83, 113, 114, 116]⟩, .string ⟨#[70, 108, 111, 111, 114]⟩, .string ⟨#[69, 120, 112]⟩, .string ⟨#[83, 105, 103, 109, 111, 105, 100]⟩, .string ⟨#[84, 97, 110, 104]⟩]) (.int .i64 9)).run Tryz.prog W = .ok (.string ⟨#[84, 97, 110, 104]⟩) W := fun _ => by kernel_rfl
      by_cases h : (([84, 97, 110, 104] : List UInt8) == s.toList) = true
      · have H := hide h
        go_wp2
        go_ret
        exact ⟨by have h1 := H.out; simp [isOne, ones, eq_of_beq h1], hg⟩
      · have h' : (([84, 97, 110, 104] : List UInt8) == s.toList) = false := by simpa using h
        have H := hide h'
        clear h
        go_wp2
        go_roundw
        case rel => exact ⟨hg, 10, by omega, by go_num, any_step HNO.out rfl H.out⟩
        case measure => simp [intOf]
    · go_wp2
      go_ret
      exact ⟨by have h1 := HNO.out; rw [show isOne s = (ones.take 10).any (fun n => n == s.toList) from rfl, h1]; rfl, hg⟩
end Go.Proofs.YtdcbjikjeicgbaaGreatDoor
