/- What attributes mean: axes, bounds, numbers, by the walk. -/
import Derived.Test.YteigfipgmghgmaaGreatDoorIHelp
import Derived.Test.YteigfipgmghgmaaGreatDoorILists
import Derived.Deep.RegionHeld3
namespace Go.Proofs.YteigfipgmghgmaaGreatDoor
open Go.RowKit

theorem whole_any (x : Int) (w : World) : Calls Tryz.prog 103 #[.int .i64 x] w fun e w' => e = .returned (.int .i64 (wholeP x)) ∧ w = w' := by
  have E : ∀ a, a = wholeP x → Ending.returned (.int .i64 a) = .returned (.int .i64 (wholeP x)) := fun a h => by rw [h]
  go_enter Tryz.func103, Tryz.ntmps103
  go_wp2
  all_goals
    go_ret
    refine ⟨E _ ?_, rfl⟩
    unfold wholeP
    split <;> split at * <;> omega

theorem bounded_any (x : Int) (d : Nat) (w : World) (hd : d ≤ 100000000000000) (hx : -9223372036854775808 ≤ x) : Calls Tryz.prog 149 #[.int .i64 x, .int .i64 d] w fun e w' => e = .returned (.int .i64 (boundedP x d)) ∧ w = w' := by
  have F := hide (fromend_any x d w hd hx)
  have E : Hid (∀ a, a = (if (if fromEndP x d < 0 then 0 else fromEndP x d) < (d : Int) then (if fromEndP x d < 0 then 0 else fromEndP x d) else (d : Int)) → Ending.returned (.int .i64 a) = .returned (.int .i64 (boundedP x d))) := fun a h => by rw [h]; rfl
  obtain ⟨f, hf⟩ : ∃ f, f = fromEndP x d := ⟨_, rfl⟩
  rw [← hf] at F E
  clear hf
  go_enter Tryz.func149, Tryz.ntmps149
  go_wp2_with (go_at_call 152; refine F.out.mono ?_; rintro e w' ⟨rfl, rfl⟩)
  all_goals
    go_ret
    refine ⟨E.out _ ?_, rfl⟩
    split <;> split at * <;> omega

/-- A new list of so many no. -/
theorem make_bools (n : Nat) (hn : n ≤ 100000000000000) : ∃ M : Array Value, (∀ W : World, (Instr.makeSlice 143 (.int .i64 (n : Int)) (.int .i64 (n : Int))).run Tryz.prog W = .ok (.slice (some ⟨W.heap.size, 0, none⟩) n n) (W.alloc (.cells M 4))) ∧
    ∀ (W : World) (base : Nat), base ≤ W.heap.size → OwnBl (W.alloc (.cells M 4)) base W.heap.size (List.replicate n false) := by
  obtain ⟨j0, hj, jz0, jz1, jz2⟩ := info_parts infoBool
  obtain ⟨M1, hM1⟩ : ∃ M, M = madeCells (Value.bool false).cells (((n : Nat) : Int).toNat * j0.size) := ⟨_, rfl⟩
  have E1 : M1.toList = List.replicate n (.bool false) := by rw [hM1, jz1, Nat.mul_one, show (Value.bool false).cells = #[Value.bool false] from rfl, toList_madeCells_one]; simp
  refine ⟨M1, fun W => ?_, fun W base hb => ?_⟩
  · have h := Go.run_make (P := Tryz.prog) W 143 4 j0 (.bool false) Tryz.underlying143 hj jz0 .i64 .i64 (n : Int) (n : Int) (by omega) (by omega) (by rw [jz2]; omega) (by omega)
    rw [← hM1] at h
    simpa using h
  · unfold OwnBl
    rw [List.length_replicate, List.map_replicate]
    refine ⟨by simp, Or.inr ⟨W.heap.size, n, M1, rfl, hb, heap_alloc_new W _, Nat.le_refl _, by simp only [maxLen]; omega, ?_, ?_⟩⟩
    · rw [← Array.length_toList, E1, List.length_replicate, Nat.mul_one]
    · rw [E1, List.take_of_length_le (by simp)]

theorem IsInts.sl {w : World} {v : Value} {zs : List Int} (h : IsInts w v zs) : ∃ a c, v = .slice a zs.length c ∧ zs.length ≤ c ∧ c ≤ 9223372036854775807 ∧ zs.length * 8 ≤ 140737488351232 := by
  obtain ⟨ao, cap, rfl, h1, h2, h3, h4, h5, h6⟩ := h
  exact ⟨ao, cap, rfl, h1, h2, h3⟩

theorem IsInts.get {w : World} {a : Option Addr} {n c : Nat} {zs : List Int} (h : IsInts w (.slice a n c) zs) {k : Nat} (hk : k < zs.length) : ∃ b off, a = some ⟨b, off, none⟩ ∧ ∀ i, i < zs.length → w.cell? ⟨b, off + i, none⟩ = some (.int .i64 (zs.getD i 0)) := by
  obtain ⟨ao, cap, e, h1, h2, h3, h4, h5, h6⟩ := h
  cases e
  obtain ⟨b, off, rfl, hc⟩ := h5 (by omega)
  exact ⟨b, off, rfl, hc⟩

theorem axesO_step {rank : Nat} {l : List Int} {k : Nat} {is : List Bool} (hk : k < l.length) : axesO rank (l.drop k) is = match axisO (l.getD k 0) rank with
    | none => none
    | some i => if is.getD i false = true then none else axesO rank (l.drop (k + 1)) (is.set i true) := by
  rw [drop_step l k hk]
  rfl

theorem axisO_lt {a : Int} {rank i : Nat} (h : axisO a rank = some i) : i < rank := by
  unfold axisO at h
  split at h
  · cases h
  · split at h
    · cases h
    · cases h
      omega

set_option maxRecDepth 100000 in
theorem axes_any (v : Value) (l : List Int) (rank : Nat) (w : World) (hv : IsInts w v l) (hr : rank ≤ 100000000000000) : Calls Tryz.prog 144 #[v, .int .i64 rank] w fun e w' => w.grownBy w' none ∧ match axesO rank l (List.replicate rank false) with
    | some is => ∃ B, e = .returned (.tuple #[.slice (some ⟨B, 0, none⟩) rank rank, .bool true]) ∧ OwnBl w' w.heap.size B is ∧ is.length = rank
    | none => e = .returned (.tuple #[.slice none 0 0, .bool false]) := by
  obtain ⟨M, mk1, OW⟩ := make_bools rank hr
  have O0 := hide (OW w w.heap.size (Nat.le_refl _))
  clear OW
  obtain ⟨r, hr0⟩ : ∃ r, r = axesO rank l (List.replicate rank false) := ⟨_, rfl⟩
  rw [← hr0]
  have HR0 := hide hr0
  obtain ⟨a, c, rfl, c1, c2, c3⟩ := hv.sl
  have HV := hide hv
  clear hv hr0
  go_enter Tryz.func144, Tryz.ntmps144
  go_wp2_with fail
  clear mk1
  go_loopw [15] (fun i wr => ∃ (k : Nat) (is : List Bool), k ≤ l.length ∧ i = .int .i64 k ∧ OwnBl wr w.heap.size w.heap.size is ∧ is.length = rank ∧ w.grownBy wr none ∧ axesO rank (l.drop k) is = r) (fun i _ => l.length - (intOf i).toNat)
  case atStart => exact ⟨0, List.replicate rank false, Nat.zero_le _, rfl, O0.out, by simp, grown_new _ _, HR0.out.symm⟩
  case round =>
    obtain ⟨k, is, hk, rfl, ho, hlen, hg, hs⟩ := hrel
    have HO := hide ho
    have HL := hide hlen
    have HG := hide hg
    have HS := hide hs
    clear ho hlen hg hs
    by_cases hkl : k < l.length
    · obtain ⟨b, off, rfl, hc⟩ := HV.out.get hkl
      have hz := HV.out.wf (l.getD k 0) (by simp [List.getD, hkl])
      have hcell := hc k hkl
      have hcell2 : wr.cell? ⟨b, off + k, none⟩ = some (.int .i64 (l.getD k 0)) := cell_still hcell HG.out
      have ST := axesO_step (rank := rank) (is := is) hkl
      rw [HS.out] at ST
      obtain ⟨z, hz0⟩ : ∃ z, z = l.getD k 0 := ⟨_, rfl⟩
      rw [← hz0] at hz hcell2 ST
      have AX := hide (axis_any z rank wr (by omega) hz.1)
      clear hc hcell hz0
      cases hx : axisO z rank with
      | none =>
        rw [hx] at AX ST
        simp only at ST
        clear hx
        subst ST
        go_wp2_with (go_at_call 150; refine AX.out.mono ?_; rintro e w' ⟨rfl, rfl⟩)
        go_ret2
        exact ⟨HG.out, rfl⟩
      | some i =>
        have hi := axisO_lt hx
        rw [hx] at AX ST
        simp only at ST
        clear hx
        have hget : is[i]? = some (is.getD i false) := by simp [List.getD, show i < is.length by rw [HL.out]; exact hi]
        obtain ⟨bb, hbb⟩ : ∃ bb, bb = is.getD i false := ⟨_, rfl⟩
        rw [← hbb] at hget ST
        obtain ⟨cb, fb⟩ := HO.out.at hget
        clear hbb
        cases bb with
        | true =>
          rw [if_pos rfl] at ST
          subst ST
          go_wp2_with (go_at_call 150; refine AX.out.mono ?_; rintro e w' ⟨rfl, rfl⟩)
          go_ret2
          exact ⟨HG.out, rfl⟩
        | false =>
          rw [if_neg (by decide)] at ST
          have HST := hide ST
          clear ST
          obtain ⟨so, sg⟩ := HO.out.set i true
          have SO := hide so
          have SG := hide (grown_trans_row HG.out sg (fun r e => by cases e; exact Nat.le_refl _))
          clear so sg
          go_wp2_with (go_at_call 150; refine AX.out.mono ?_; rintro e w' ⟨rfl, rfl⟩)
          go_roundw
          case rel => exact ⟨k + 1, is.set i true, by omega, by go_num, SO.out, by rw [List.length_set]; exact HL.out, SG.out, HST.out.symm⟩
          case measure => simp [intOf]; omega
    · have hkk : k = l.length := by omega
      subst hkk
      have E : r = some is := by
        rw [← HS.out, List.drop_length]
        rfl
      subst E
      clear hk hkl
      go_wp2
      go_ret2
      exact ⟨HG.out, _, rfl, HO.out, HL.out⟩
end Go.Proofs.YteigfipgmghgmaaGreatDoor
