/- Joined texts: IPure, IHelp, IAttr. -/
import Derived.Test.YtabddmiffcnnjaaGreatDoorQartAT
import Derived.Test.YtabddmiffcnnjaaGreatDoorQartAU
import Derived.Test.YtabddmiffcnnjaaGreatDoorQartAV
import Derived.Test.YtabddmiffcnnjaaGreatDoorQartAD
import Derived.WalkLawsBesides
import Derived.Deep.RegionHeld3
namespace Go.Proofs.YtabddmiffcnnjaaGreatDoor

abbrev R := Except Int

def mustP (b : Bool) : R Unit := if b = true then .ok () else .error 4
def stopP (e : Int) : R Unit := if e = 0 then .ok () else .error e
def wholeP (x : Int) : Int := if (if x < -1073741824 then -1073741824 else x) < 1073741824 then (if x < -1073741824 then -1073741824 else x) else 1073741824
def isTypeP (t : Int) : Bool := t == 1 || t == 6 || t == 7 || t == 9
def typP (t : Int) : R Unit := if isTypeP t = true then .ok () else .error 5
def countP (zs : List Int) : R Int := if cntE zs = 0 then .ok (prod zs) else .error (cntE zs)
def spreadP (a b : List Int) : R (List Int) := if bcE a b = 0 then .ok (bcR a b) else .error (bcE a b)
def fromEndP (x : Int) (n : Nat) : Int := if x < 0 then x + n else x
def axisO (a : Int) (rank : Nat) : Option Nat := if fromEndP a rank < 0 then none else if (rank : Int) ≤ fromEndP a rank then none else some (fromEndP a rank).toNat
def axisP (a : Int) (rank : Nat) : R Nat := match axisO a rank with
  | some i => .ok i
  | none => .error 4
def axesO (rank : Nat) : List Int → List Bool → Option (List Bool)
  | [], is => some is
  | a :: l, is => match axisO a rank with
    | none => none
    | some i => if is.getD i false = true then none else axesO rank l (is.set i true)
def axesP (l : List Int) (rank : Nat) : R (List Bool) := match axesO rank l (List.replicate rank false) with
  | some is => .ok is
  | none => .error 4
def boundedP (x : Int) (d : Nat) : Int := if (if fromEndP x d < 0 then 0 else fromEndP x d) < d then (if fromEndP x d < 0 then 0 else fromEndP x d) else d
def upToP (n : Nat) : List Int := (List.range n).map Int.ofNat
def isOnP (x : Int) : R Bool := if x = 0 then .ok false else if x = 1 then .ok true else .error 4

structure At where
  op : ByteArray
  xs : List Atr
  cs : List Cont

def At.int (n : At) (nm : ByteArray) (z : Int) : Int := intV n.xs nm z
def At.ints (n : At) (nm : ByteArray) (zs : List Int) : List Int := intsV n.xs n.cs nm zs

def permP (n : At) (rank : Nat) : List Int := n.ints ⟨#[112, 101, 114, 109]⟩ (upToP rank).reverse
def alongP (n : At) (rank : Nat) : List Int :=
  if n.op.toList = [65, 114, 103, 77, 97, 120] then [n.int ⟨#[97, 120, 105, 115]⟩ 0] else if n.op.toList = [83, 111, 102, 116, 109, 97, 120] then [n.int ⟨#[97, 120, 105, 115]⟩ (-1)] else n.ints ⟨#[97, 120, 101, 115]⟩ (upToP rank)

end Go.Proofs.YtabddmiffcnnjaaGreatDoor

namespace Go.Proofs.YtabddmiffcnnjaaGreatDoor

open Go.RowKit

def Ended {α : Type} (w : World) (r : R α) (Q : α → Value → World → Prop) (e : Ending) (w' : World) : Prop := w.grownBy w' none ∧ match r with
  | .error c => e = .panicked [{ v := .iface 24 (.int .i64 c), recovered := false }]
  | .ok a => ∃ v, e = .returned v ∧ Q a v w'

theorem ended_err {α : Type} {w w' : World} {r : R α} {Q : α → Value → World → Prop} {c : Int} (h : r = .error c) (hg : w.grownBy w' none) : Ended w r Q (.panicked [{ v := .iface 24 (.int .i64 c), recovered := false }]) w' := by
  rw [h]
  exact ⟨hg, rfl⟩

theorem ended_ok {α : Type} {w w' : World} {r : R α} {Q : α → Value → World → Prop} {a : α} {v : Value} (h : r = .ok a) (hg : w.grownBy w' none) (hq : Q a v w') : Ended w r Q (.returned v) w' := by
  rw [h]
  exact ⟨hg, v, rfl, hq⟩

theorem Owns.sl {w : World} {base : Nat} {v : Value} {zs : List Int} (h : Owns w base v zs) : ∃ s : Sl, v = s.v := by
  rcases h.1.2 with ⟨rfl, -⟩ | ⟨g, cap, cur, rfl, -⟩
  · exact ⟨⟨none, 0, 0⟩, rfl⟩
  · exact ⟨⟨_, _, _⟩, rfl⟩

theorem must_yes (w : World) : Calls Tryz.prog 35 #[.bool true] w fun e w' => e = .returned (.tuple #[]) ∧ w = w' := by
  go_enter Tryz.func35, Tryz.ntmps35
  go_wp2
  go_end0
  exact ⟨rfl, rfl⟩

theorem must_no (w : World) : Calls Tryz.prog 35 #[.bool false] w fun e w' => e = .panicked [{ v := .iface 24 (.int .i64 4), recovered := false }] ∧ w = w' := by
  go_enter Tryz.func35, Tryz.ntmps35
  go_wp2
  exact ⟨rfl, rfl, rfl⟩

theorem stop_ok (w : World) : Calls Tryz.prog 33 #[.int .i64 0] w fun e w' => e = .returned (.tuple #[]) ∧ w = w' := by
  go_enter Tryz.func33, Tryz.ntmps33
  go_wp2
  go_end0
  exact ⟨rfl, rfl⟩

theorem stop_err (c : Int) (hc : c ≠ 0) (w : World) : Calls Tryz.prog 33 #[.int .i64 c] w fun e w' => e = .panicked [{ v := .iface 24 (.int .i64 c), recovered := false }] ∧ w = w' := by
  have h : (c != 0) = true := by simpa using hc
  clear hc
  go_enter Tryz.func33, Tryz.ntmps33
  go_wp2
  exact ⟨rfl, rfl, rfl⟩

theorem countof_any (v : Value) (zs : List Int) (w : World) (h : IsInts w v zs) : Calls Tryz.prog 37 #[v] w (Ended w (countP zs) fun n v w' => v = .int .i64 n ∧ w = w') := by
  have F := hide (count_any v zs w h)
  unfold countP
  by_cases hx : cntE zs = 0
  · rw [if_pos hx]
    have E : cnt zs = prod zs := by simp [cnt, hx]
    rw [hx, E] at F
    clear hx h E
    go_enter Tryz.func37, Tryz.ntmps37
    go_wp2_with (first | (go_at_call 11; refine F.out.mono ?_; rintro e w' ⟨rfl, rfl⟩) | (go_at_call 33; refine (stop_ok _).mono ?_; rintro e w' ⟨rfl, rfl⟩))
    go_ret
    exact ⟨grown_refl _, _, rfl, rfl, rfl⟩
  · rw [if_neg hx]
    have HX := hide hx
    clear hx h
    go_enter Tryz.func37, Tryz.ntmps37
    go_wp2_with (first | (go_at_call 11; refine F.out.mono ?_; rintro e w' ⟨rfl, rfl⟩) | (go_at_call 33; refine (stop_err _ HX.out _).mono ?_; rintro e w' ⟨rfl, rfl⟩))
    exact ⟨rfl, grown_refl _, rfl⟩

theorem spread_any (u v : Sl) (a b : List Int) (w : World) (ha : IsInts w u.v a) (hb : IsInts w v.v b) : Calls Tryz.prog 67 #[.slice u.a u.n u.c, .slice v.a v.n v.c] w (Ended w (spreadP a b) fun zs r w' => ∃ s : Sl, r = s.v ∧ Owns w' w.heap.size s.v zs) := by
  have F := hide (bc_any u.v v.v a b w ha hb)
  unfold spreadP
  by_cases hx : bcE a b = 0
  · rw [if_pos hx]
    rw [hx] at F
    clear hx ha hb
    go_enter Tryz.func67, Tryz.ntmps67
    go_wp2_with (first | (go_at_call 56; refine F.out.mono ?_; rintro e w' ⟨r, rfl, ho, hg⟩) | (go_at_call 33; refine (stop_ok _).mono ?_; rintro e w' ⟨rfl, rfl⟩))
    go_ret
    obtain ⟨s, rfl⟩ := ho.sl
    exact ⟨hg, _, rfl, s, rfl, ho⟩
  · rw [if_neg hx]
    have HX := hide hx
    clear hx ha hb
    go_enter Tryz.func67, Tryz.ntmps67
    go_wp2_with (first | (go_at_call 56; refine F.out.mono ?_; rintro e w' ⟨r, rfl, ho, hg⟩) | (go_at_call 33; refine (stop_err _ HX.out _).mono ?_; rintro e w' ⟨rfl, rfl⟩))
    exact ⟨rfl, hg, rfl⟩

theorem itype_any (t : Int) (w : World) : Calls Tryz.prog 61 #[.int .i64 t] w fun e w' => e = .returned (.bool (isTypeP t)) ∧ w = w' := by
  have E : Hid (chk t 0 = isTypeP t) := by
    show chk t 0 = isTypeP t
    unfold chk isTypeP
    by_cases h1 : t = 1
    · subst h1; decide
    · by_cases h6 : t = 6
      · subst h6; decide
      · by_cases h7 : t = 7
        · subst h7; decide
        · by_cases h9 : t = 9
          · subst h9; decide
          · simp [h1, h6, h7, h9]
  have C := hide (numck_any t 0 w)
  rw [E.out] at C
  clear E
  go_enter Tryz.func61, Tryz.ntmps61
  go_wp2_with (go_at_call 22; refine C.out.mono ?_; rintro e w' ⟨rfl, rfl⟩)
  go_ret
  exact ⟨rfl, rfl⟩

theorem typ_any (t : Int) (w : World) : Calls Tryz.prog 36 #[.int .i64 t] w (Ended w (typP t) fun _ v w' => v = .tuple #[] ∧ w = w') := by
  have C := hide (itype_any t w)
  unfold typP
  cases h : isTypeP t with
  | true =>
    rw [h] at C
    clear h
    go_enter Tryz.func36, Tryz.ntmps36
    go_wp2_with (go_at_call 61; refine C.out.mono ?_; rintro e w' ⟨rfl, rfl⟩)
    go_end0
    exact ⟨grown_refl _, _, rfl, rfl, rfl⟩
  | false =>
    rw [h] at C
    clear h
    go_enter Tryz.func36, Tryz.ntmps36
    go_wp2_with (go_at_call 61; refine C.out.mono ?_; rintro e w' ⟨rfl, rfl⟩)
    exact ⟨rfl, grown_refl _, rfl⟩

end Go.Proofs.YtabddmiffcnnjaaGreatDoor

namespace Go.Proofs.YtabddmiffcnnjaaGreatDoor

open Go.RowKit

theorem whole_any (x : Int) (w : World) : Calls Tryz.prog 63 #[.int .i64 x] w fun e w' => e = .returned (.int .i64 (wholeP x)) ∧ w = w' := by
  have E : ∀ a, a = wholeP x → Ending.returned (.int .i64 a) = .returned (.int .i64 (wholeP x)) := fun a h => by rw [h]
  go_enter Tryz.func63, Tryz.ntmps63
  go_wp2
  all_goals
    go_ret
    refine ⟨E _ ?_, rfl⟩
    unfold wholeP
    split <;> split at * <;> omega

theorem IsInts.sl {w : World} {v : Value} {zs : List Int} (h : IsInts w v zs) : ∃ a c, v = .slice a zs.length c ∧ zs.length ≤ c ∧ c ≤ 9223372036854775807 ∧ zs.length * 8 ≤ 140737488351232 := by
  obtain ⟨ao, cap, rfl, h1, h2, h3, h4, h5, h6⟩ := h
  exact ⟨ao, cap, rfl, h1, h2, h3⟩

theorem IsInts.get {w : World} {a : Option Addr} {n c : Nat} {zs : List Int} (h : IsInts w (.slice a n c) zs) {k : Nat} (hk : k < zs.length) : ∃ b off, a = some ⟨b, off, none⟩ ∧ ∀ i, i < zs.length → w.cell? ⟨b, off + i, none⟩ = some (.int .i64 (zs.getD i 0)) := by
  obtain ⟨ao, cap, e, h1, h2, h3, h4, h5, h6⟩ := h
  cases e
  obtain ⟨b, off, rfl, hc⟩ := h5 (by omega)
  exact ⟨b, off, rfl, hc⟩

end Go.Proofs.YtabddmiffcnnjaaGreatDoor
