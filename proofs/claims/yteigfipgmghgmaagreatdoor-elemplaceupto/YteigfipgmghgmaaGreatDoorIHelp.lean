/- The small helpers of infer and attr, by the walk. -/
import Derived.Test.YteigfipgmghgmaaGreatDoorIPure
import Derived.Test.YteigfipgmghgmaaGreatDoorGBool
import Derived.WalkLawsBesides
namespace Go.Proofs.YteigfipgmghgmaaGreatDoor
open Go.RowKit

/-- How a call ends that may give up: an error's number, or what it answers. -/
def Ended {α : Type} (w : World) (r : R α) (Q : α → Value → World → Prop) (e : Ending) (w' : World) : Prop := w.grownBy w' none ∧ match r with
  | .error c => e = .panicked [{ v := .iface 33 (.int .i64 c), recovered := false }]
  | .ok a => ∃ v, e = .returned v ∧ Q a v w'

theorem ended_err {α : Type} {w w' : World} {r : R α} {Q : α → Value → World → Prop} {c : Int} (h : r = .error c) (hg : w.grownBy w' none) : Ended w r Q (.panicked [{ v := .iface 33 (.int .i64 c), recovered := false }]) w' := by
  rw [h]
  exact ⟨hg, rfl⟩

theorem ended_ok {α : Type} {w w' : World} {r : R α} {Q : α → Value → World → Prop} {a : α} {v : Value} (h : r = .ok a) (hg : w.grownBy w' none) (hq : Q a v w') : Ended w r Q (.returned v) w' := by
  rw [h]
  exact ⟨hg, v, rfl, hq⟩

theorem Owns.sl {w : World} {base : Nat} {v : Value} {zs : List Int} (h : Owns w base v zs) : ∃ s : Sl, v = s.v := by
  rcases h.1.2 with ⟨rfl, -⟩ | ⟨g, cap, cur, rfl, -⟩
  · exact ⟨⟨none, 0, 0⟩, rfl⟩
  · exact ⟨⟨_, _, _⟩, rfl⟩

theorem must_yes (w : World) : Calls Tryz.prog 71 #[.bool true] w fun e w' => e = .returned (.tuple #[]) ∧ w = w' := by
  go_enter Tryz.func71, Tryz.ntmps71
  go_wp2
  go_end0
  exact ⟨rfl, rfl⟩

theorem must_no (w : World) : Calls Tryz.prog 71 #[.bool false] w fun e w' => e = .panicked [{ v := .iface 33 (.int .i64 4), recovered := false }] ∧ w = w' := by
  go_enter Tryz.func71, Tryz.ntmps71
  go_wp2
  exact ⟨rfl, rfl, rfl⟩

theorem stop_ok (w : World) : Calls Tryz.prog 69 #[.int .i64 0] w fun e w' => e = .returned (.tuple #[]) ∧ w = w' := by
  go_enter Tryz.func69, Tryz.ntmps69
  go_wp2
  go_end0
  exact ⟨rfl, rfl⟩

theorem stop_err (c : Int) (hc : c ≠ 0) (w : World) : Calls Tryz.prog 69 #[.int .i64 c] w fun e w' => e = .panicked [{ v := .iface 33 (.int .i64 c), recovered := false }] ∧ w = w' := by
  have h : (c != 0) = true := by simpa using hc
  clear hc
  go_enter Tryz.func69, Tryz.ntmps69
  go_wp2
  exact ⟨rfl, rfl, rfl⟩

theorem fromend_any (x : Int) (n : Nat) (w : World) (hn : n ≤ 100000000000000) (hx : -9223372036854775808 ≤ x) : Calls Tryz.prog 152 #[.int .i64 x, .int .i64 n] w fun e w' => e = .returned (.int .i64 (fromEndP x n)) ∧ w = w' := by
  by_cases h : x < 0
  · have E : Hid (fromEndP x n = x + n) := by show fromEndP x n = x + n; simp [fromEndP, h]
    go_enter Tryz.func152, Tryz.ntmps152
    go_wp2
    go_ret
    exact ⟨by rw [E.out]; rfl, rfl⟩
  · have E : Hid (fromEndP x n = x) := by show fromEndP x n = x; simp [fromEndP, h]
    go_enter Tryz.func152, Tryz.ntmps152
    go_wp2
    go_ret
    exact ⟨by rw [E.out]; rfl, rfl⟩

theorem fromEndP_le (x : Int) (n : Nat) (hn : n ≤ 100000000000000) (hx : -9223372036854775808 ≤ x) (hx2 : x ≤ 9223372036854775807) : -9223372036854775808 ≤ fromEndP x n ∧ fromEndP x n ≤ 9223372036854775807 := by
  unfold fromEndP
  split <;> omega

theorem axis_any (a : Int) (rank : Nat) (w : World) (hr : rank ≤ 100000000000000) (ha : -9223372036854775808 ≤ a) : Calls Tryz.prog 150 #[.int .i64 a, .int .i64 rank] w fun e w' => e = .returned (.tuple #[.int .i64 ((axisO a rank).getD 0 : Nat), .bool (axisO a rank).isSome]) ∧ w = w' := by
  have F := hide (fromend_any a rank w hr ha)
  obtain ⟨f, hf⟩ : ∃ f, f = fromEndP a rank := ⟨_, rfl⟩
  have E : Hid (axisO a rank = if f < 0 then none else if (rank : Int) ≤ f then none else some f.toNat) := by show axisO a rank = _; rw [hf]; rfl
  rw [← hf] at F
  clear hf
  by_cases h1 : f < 0
  · have E2 : Hid (axisO a rank = none) := by show axisO a rank = none; rw [E.out, if_pos h1]
    go_enter Tryz.func150, Tryz.ntmps150
    go_wp2_with (go_at_call 152; refine F.out.mono ?_; rintro e w' ⟨rfl, rfl⟩)
    go_ret2
    exact ⟨by rw [E2.out]; rfl, rfl⟩
  · by_cases h2 : (rank : Int) ≤ f
    · have E2 : Hid (axisO a rank = none) := by show axisO a rank = none; rw [E.out, if_neg h1, if_pos h2]
      go_enter Tryz.func150, Tryz.ntmps150
      go_wp2_with (go_at_call 152; refine F.out.mono ?_; rintro e w' ⟨rfl, rfl⟩)
      go_ret2
      exact ⟨by rw [E2.out]; rfl, rfl⟩
    · have E2 : Hid (axisO a rank = some f.toNat) := by show axisO a rank = some f.toNat; rw [E.out, if_neg h1, if_neg h2]
      have E3 : Hid (((f.toNat : Nat) : Int) = f) := by show ((f.toNat : Nat) : Int) = f; omega
      go_enter Tryz.func150, Tryz.ntmps150
      go_wp2_with (go_at_call 152; refine F.out.mono ?_; rintro e w' ⟨rfl, rfl⟩)
      go_ret2
      exact ⟨by rw [E2.out]; simp only [Option.getD_some, E3.out]; rfl, rfl⟩

theorem axisof_any (a : Int) (rank : Nat) (w : World) (hr : rank ≤ 100000000000000) (ha : -9223372036854775808 ≤ a) : Calls Tryz.prog 117 #[.int .i64 a, .int .i64 rank] w (Ended w (axisP a rank) fun i v w' => v = .int .i64 (i : Nat) ∧ w = w') := by
  have F := hide (axis_any a rank w hr ha)
  unfold axisP
  cases hx : axisO a rank with
  | none =>
    rw [hx] at F
    clear hx
    go_enter Tryz.func117, Tryz.ntmps117
    go_wp2_with (first | (go_at_call 150; refine F.out.mono ?_; rintro e w' ⟨rfl, rfl⟩) | (go_at_call 71; refine (must_no _).mono ?_; rintro e w' ⟨rfl, rfl⟩))
    exact ⟨rfl, grown_refl _, rfl⟩
  | some i =>
    rw [hx] at F
    clear hx
    go_enter Tryz.func117, Tryz.ntmps117
    go_wp2_with (first | (go_at_call 150; refine F.out.mono ?_; rintro e w' ⟨rfl, rfl⟩) | (go_at_call 71; refine (must_yes _).mono ?_; rintro e w' ⟨rfl, rfl⟩))
    go_ret
    exact ⟨grown_refl _, _, rfl, rfl, rfl⟩

theorem countof_any (v : Value) (zs : List Int) (w : World) (h : IsInts w v zs) : Calls Tryz.prog 73 #[v] w (Ended w (countP zs) fun n v w' => v = .int .i64 n ∧ w = w') := by
  have F := hide (count_any v zs w h)
  unfold countP
  by_cases hx : cntE zs = 0
  · rw [if_pos hx]
    have E : cnt zs = prod zs := by simp [cnt, hx]
    rw [hx, E] at F
    clear hx h E
    go_enter Tryz.func73, Tryz.ntmps73
    go_wp2_with (first | (go_at_call 44; refine F.out.mono ?_; rintro e w' ⟨rfl, rfl⟩) | (go_at_call 69; refine (stop_ok _).mono ?_; rintro e w' ⟨rfl, rfl⟩))
    go_ret
    exact ⟨grown_refl _, _, rfl, rfl, rfl⟩
  · rw [if_neg hx]
    have HX := hide hx
    clear hx h
    go_enter Tryz.func73, Tryz.ntmps73
    go_wp2_with (first | (go_at_call 44; refine F.out.mono ?_; rintro e w' ⟨rfl, rfl⟩) | (go_at_call 69; refine (stop_err _ HX.out _).mono ?_; rintro e w' ⟨rfl, rfl⟩))
    exact ⟨rfl, grown_refl _, rfl⟩

theorem spread_any (u v : Sl) (a b : List Int) (w : World) (ha : IsInts w u.v a) (hb : IsInts w v.v b) : Calls Tryz.prog 107 #[.slice u.a u.n u.c, .slice v.a v.n v.c] w (Ended w (spreadP a b) fun zs r w' => ∃ s : Sl, r = s.v ∧ Owns w' w.heap.size s.v zs) := by
  have F := hide (bc_any u.v v.v a b w ha hb)
  unfold spreadP
  by_cases hx : bcE a b = 0
  · rw [if_pos hx]
    rw [hx] at F
    clear hx ha hb
    go_enter Tryz.func107, Tryz.ntmps107
    go_wp2_with (first | (go_at_call 40; refine F.out.mono ?_; rintro e w' ⟨r, rfl, ho, hg⟩) | (go_at_call 69; refine (stop_ok _).mono ?_; rintro e w' ⟨rfl, rfl⟩))
    go_ret
    obtain ⟨s, rfl⟩ := ho.sl
    exact ⟨hg, _, rfl, s, rfl, ho⟩
  · rw [if_neg hx]
    have HX := hide hx
    clear hx ha hb
    go_enter Tryz.func107, Tryz.ntmps107
    go_wp2_with (first | (go_at_call 40; refine F.out.mono ?_; rintro e w' ⟨r, rfl, ho, hg⟩) | (go_at_call 69; refine (stop_err _ HX.out _).mono ?_; rintro e w' ⟨rfl, rfl⟩))
    exact ⟨rfl, hg, rfl⟩

theorem itype_any (t : Int) (w : World) : Calls Tryz.prog 101 #[.int .i64 t] w fun e w' => e = .returned (.bool (isTypeP t)) ∧ w = w' := by
  have E : Hid (chk t 0 = isTypeP t) := by
    show chk t 0 = isTypeP t
    unfold chk isTypeP
    by_cases h1 : t = 1
    · subst h1; decide
    · by_cases h6 : t = 6
      · subst h6; decide
      · by_cases h7 : t = 7
        · subst h7; decide
        · by_cases h9 : t = 9
          · subst h9; decide
          · simp [h1, h6, h7, h9]
  have C := hide (numck_any t 0 w)
  rw [E.out] at C
  clear E
  go_enter Tryz.func101, Tryz.ntmps101
  go_wp2_with (go_at_call 45; refine C.out.mono ?_; rintro e w' ⟨rfl, rfl⟩)
  go_ret
  exact ⟨rfl, rfl⟩

theorem typ_any (t : Int) (w : World) : Calls Tryz.prog 72 #[.int .i64 t] w (Ended w (typP t) fun _ v w' => v = .tuple #[] ∧ w = w') := by
  have C := hide (itype_any t w)
  unfold typP
  cases h : isTypeP t with
  | true =>
    rw [h] at C
    clear h
    go_enter Tryz.func72, Tryz.ntmps72
    go_wp2_with (go_at_call 101; refine C.out.mono ?_; rintro e w' ⟨rfl, rfl⟩)
    go_end0
    exact ⟨grown_refl _, _, rfl, rfl, rfl⟩
  | false =>
    rw [h] at C
    clear h
    go_enter Tryz.func72, Tryz.ntmps72
    go_wp2_with (go_at_call 101; refine C.out.mono ?_; rintro e w' ⟨rfl, rfl⟩)
    exact ⟨rfl, grown_refl _, rfl⟩

theorem ison_any (x : Int) (w : World) : Calls Tryz.prog 146 #[.int .i64 x] w (Ended w (isOnP x) fun b v w' => v = .bool b ∧ w = w') := by
  unfold isOnP
  by_cases h0 : x = 0
  · subst h0
    rw [if_pos rfl]
    go_enter Tryz.func146, Tryz.ntmps146
    go_wp2_with (go_at_call 71; refine (must_yes _).mono ?_; rintro e w' ⟨rfl, rfl⟩)
    go_ret
    exact ⟨grown_refl _, _, rfl, rfl, rfl⟩
  · rw [if_neg h0]
    by_cases h1 : x = 1
    · subst h1
      rw [if_pos rfl]
      go_enter Tryz.func146, Tryz.ntmps146
      go_wp2_with (go_at_call 71; refine (must_yes _).mono ?_; rintro e w' ⟨rfl, rfl⟩)
      go_ret
      exact ⟨grown_refl _, _, rfl, rfl, rfl⟩
    · rw [if_neg h1]
      have b0 : (x == 0) = false := by simpa using h0
      have b1 : (x == 1) = false := by simpa using h1
      clear h0 h1
      go_enter Tryz.func146, Tryz.ntmps146
      go_wp2_with (go_at_call 71; refine (must_no _).mono ?_; rintro e w' ⟨rfl, rfl⟩)
      exact ⟨rfl, grown_refl _, rfl⟩
end Go.Proofs.YteigfipgmghgmaaGreatDoor
