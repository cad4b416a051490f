/- WireFields, by the walk: for texts that are not greater than the statement's bound. -/
import Derived.Test.YtoadpjegdhlphaaWSame
import Derived.Test.YtoadpjegdhlphaaWJoin
import Derived.Test.YtoadpjegdhlphaaLWJoinedW
namespace Go.Proofs.Ytoadpjegdhlphaa
open Go.RowKit

/-- What both answer of a text that is not too long. -/
theorem fields_same {s : ByteArray} (hs : s.size ≤ 1048576) : ∃ (xs : List Fld) (E : Int), xs.length ≤ 1048576 ∧ (∀ {w e w'}, FieldsT s w e w' → ∃ v, e = .returned (.tuple #[v, .int .i64 E]) ∧ w.grownBy w' none ∧ OwnsL 34 4 fcells w' w.heap.size v xs) := by
  cases h : all (fd s) s.size with
  | none =>
    refine ⟨[], 3, by simp, fun {w e w'} ht => ?_⟩
    obtain ⟨v, E, rfl, g, ⟨_, xs, a, _⟩ | ⟨_, _, rfl, rfl⟩ | ⟨a, _⟩⟩ := ht
    · rw [h] at a; cases a
    · exact ⟨_, rfl, g, OwnsL.nil _ _ _ _ _⟩
    · omega
  | some xs =>
    refine ⟨xs, 0, by have := all_len h; omega, fun {w e w'} ht => ?_⟩
    obtain ⟨v, E, rfl, g, ⟨_, ys, a, rfl, b⟩ | ⟨_, a, _⟩ | ⟨a, _⟩⟩ := ht
    · rw [h] at a; cases a; exact ⟨_, rfl, g, b⟩
    · rw [h] at a; cases a
    · omega

theorem nums_same {s : ByteArray} : ∃ (xs : List Nat) (E : Int), (∀ {w e w'}, AllT_num s w e w' → ∃ v, e = .returned (.tuple #[v, .int .i64 E]) ∧ w.grownBy w' none ∧ OwnsL 22 1 ncells w' w.heap.size v xs) := by
  cases h : all (tk s) s.size with
  | none =>
    refine ⟨[], 3, fun {w e w'} ht => ?_⟩
    obtain ⟨v, E, rfl, g, ⟨xs, a, _⟩ | ⟨_, rfl, rfl⟩⟩ := ht
    · rw [h] at a; cases a
    · exact ⟨_, rfl, g, OwnsL.nil _ _ _ _ _⟩
  | some xs =>
    refine ⟨xs, 0, fun {w e w'} ht => ?_⟩
    obtain ⟨v, E, rfl, g, ⟨ys, a, rfl, b⟩ | ⟨a, _⟩⟩ := ht
    · rw [h] at a; cases a; exact ⟨_, rfl, g, b⟩
    · rw [h] at a; cases a

theorem num_at {w : World} {base : Nat} {g cap : Nat} {xs : List Nat} (h : OwnsL 22 1 ncells w base (.slice (some ⟨g, 0, none⟩) xs.length cap) xs) (k : Nat) (hk : k < xs.length) : w.cell? ⟨g, k, none⟩ = some (.int .u64 xs[k]) := by
  rw [World.ownsRow.cellAt h k (by omega)]
  have e : ∀ l : List Nat, l.flatMap ncells = l.map fun (n : Nat) => Value.int .u64 n := by
    intro l
    induction l with
    | nil => rfl
    | cons a l ih => rw [List.flatMap_cons, ih]; rfl
  rw [e]
  simp [hk]

theorem own_at {α : Type} {te : TypeId} {size : Nat} {f : α → List Value} {w : World} {base : Nat} {v : Value} {xs : List α} (h : OwnsL te size f w base v xs) (hl : 0 < xs.length) : ∃ g cap, v = .slice (some ⟨g, 0, none⟩) xs.length cap ∧ base ≤ g := by
  rcases h.2 with ⟨_, h0⟩ | ⟨g, cap, cur, e, hb, _⟩
  · omega
  · exact ⟨g, cap, e, hb⟩

theorem own_len {α : Type} {te : TypeId} {size : Nat} {f : α → List Value} {w : World} {base : Nat} {v : Value} {xs : List α} (h : OwnsL te size f w base v xs) : xs.length ≤ 9223372036854775807 := by
  rcases h.2 with ⟨_, h0⟩ | ⟨g, cap, cur, rfl, _, _, hnc, hcm, _, _⟩
  · omega
  · simp only [maxLen] at hcm; omega

set_option maxRecDepth 100000 in
set_option maxHeartbeats 3200000 in
theorem wfields_walk (s : ByteArray) (hs : s.size ≤ 1048576) (w : World) :
    Calls Try.prog 4 #[.string s] w fun e w' => e = .returned (.bool true) ∧ Below w.heap.size w w' := by
  have hnot : ∀ (x : Bool) (w : World), (Op.unary .not (.bool x)).run Try.prog w = .ok (.bool (!x)) w := fun _ _ => rfl
  obtain ⟨xs, E, hxl, hF⟩ := fields_same hs
  obtain ⟨ns, G, hN⟩ := nums_same (s := s)
  have C1 := hide (fun wx => (fields_any s wx (by omega)).mono (fun e w' h => hF h))
  have C2 := hide (fun wx => (reffields_any s wx (by omega)).mono (fun e w' h => hF h))
  have C3 := hide (fun wx => (packed_any s wx (by omega) (by omega)).mono (fun e w' h => hN h))
  have C4 := hide (fun wx => (refpacked_any s wx (by omega) (by omega)).mono (fun e w' h => hN h))
  clear hF hN
  go_enter Try.func4, Try.ntmps4
  go_wp2_with fail
  refine (C1.out _).mono ?_
  rintro e w1 ⟨v1, rfl, g1, o1⟩
  go_wp2_with fail
  refine (C2.out _).mono ?_
  rintro e w2 ⟨v2, rfl, g2, o2⟩
  have SM := hide (same_any _ _ xs w2 ((o1.more g2).flds (by omega)) (o2.flds (by omega)))
  have O1 := hide (o1.more g2)
  have HL1 := hide (fun k h => (World.ownsRow.lt o1 k h).2)
  have O2 := hide o2
  obtain ⟨a1, c1, rfl⟩ := o1.form
  obtain ⟨a2, c2, rfl⟩ := o2.form
  have g12 := grown_trans g1 g2
  clear o1 o2
  go_wp2_with fail
  refine SM.out.mono ?_
  rintro e w3 ⟨rfl, g3⟩
  have O13 := hide (O1.out.more g3)
  have g13 := grown_trans g12 g3
  have z3 := g3.size
  have z2 := g2.size
  have hq : (E != E) = false := by simp
  have G23 := hide g3
  go_wp2
  go_loopg [7] xs.length (fun f i wr => ∃ (k : Nat) (ys : List Value), f = xs.length - k ∧ k ≤ xs.length ∧ i = .int .i64 k ∧ wr.ownsRow w.heap.size 34 4 (.slice a1 xs.length c1) xs.length ys ∧ w3.grownBy wr (Value.slice a1 xs.length c1).ownBlock)
  case atStart => exact ⟨0, _, rfl, Nat.zero_le _, rfl, O13.out, World.grownBy.refl _ _⟩
  case round =>
    obtain ⟨k, ys, rfl, hk, rfl, hown, hg⟩ := hrel
    have HO := hide hown
    by_cases hlt : k < xs.length
    · obtain ⟨g, cap, e, hb⟩ := own_at O13.out (by omega)
      simp only [Value.slice.injEq, true_and] at e
      obtain ⟨rfl, rfl⟩ := e
      obtain ⟨c, hc⟩ : ∃ c, wr.cell? ⟨g, k * 4, none⟩ = some c := ⟨ys[k * 4]'(by have := hown.1; omega), by rw [hown.cellAt (k * 4) (by omega), List.getElem?_eq_getElem]⟩
      have hf := hown.frozenAt (k * 4)
      clear hown
      go_wp2
      go_roundg (xs.length - (k + 1))
      case measure => omega
      case rel => exact ⟨k + 1, _, rfl, by omega, by go_num, (HO.out.stored (k * 4) _).1, row_trans hg (HO.out.stored (k * 4) _).2⟩
    · clear hown
      have O2r := hide ((O2.out.more G23.out).kept hg (fun g e => HL1.out g e))
      have g1r : w.grownBy wr none := grown_trans_row g13 hg (fun g e => (World.ownsRow.lt O1.out g e).1)
      have hzr := hg.size
      go_wp2_with fail
      refine (C1.out _).mono ?_
      rintro e w5 ⟨v5, rfl, g5, o5⟩
      have O5 := hide o5
      obtain ⟨a5, c5, rfl⟩ := o5.form
      clear o5
      go_wp2_with fail
      refine (C3.out _).mono ?_
      rintro e w6 ⟨v6, rfl, g6, o6⟩
      have O6 := hide o6
      obtain ⟨a6, c6, rfl⟩ := o6.form
      clear o6
      go_wp2_with fail
      refine (C4.out _).mono ?_
      rintro e w7 ⟨v7, rfl, g7, o7⟩
      have O7 := hide o7
      obtain ⟨a7, c7, rfl⟩ := o7.form
      clear o7
      have hqG : (G != G) = false := by simp
      have g17 := grown_trans g1r (grown_trans g5 (grown_trans g6 g7))
      have O67 := hide (O6.out.more g7)
      have hnl := own_len O6.out
      go_wp2
      go_loopw [14] (fun i wx => w7.grownBy wx none ∧ ∃ k : Nat, k ≤ ns.length ∧ i = .int .i64 k) (fun i _ => ns.length - (intOf i).toNat)
      case atStart => exact ⟨grown_refl _, 0, Nat.zero_le _, rfl⟩
      case round =>
        obtain ⟨hgx, k, hk, rfl⟩ := hrel
        by_cases hlt : k < ns.length
        · obtain ⟨p6, q6, e6, -⟩ := own_at O67.out (by omega)
          obtain ⟨p7, q7, e7, -⟩ := own_at O7.out (by omega)
          simp only [Value.slice.injEq, true_and] at e6 e7
          obtain ⟨rfl, rfl⟩ := e6
          obtain ⟨rfl, rfl⟩ := e7
          have x6 := num_at (O67.out.more hgx) k hlt
          have x7 := num_at (O7.out.more hgx) k hlt
          go_wp2
          go_region
          all_goals
            go_wp2
            go_roundw
            case rel => exact ⟨grown_drew hgx, k + 1, by omega, by go_num⟩
            case measure => simp [intOf]; omega
        · have S5 := hide (same_any _ _ xs _ ((O5.out.more (grown_trans g6 (grown_trans g7 hgx))).flds (by omega)) ((O2r.out.more (grown_trans g5 (grown_trans g6 (grown_trans g7 hgx)))).flds (by omega)))
          go_wp2_with fail
          refine S5.out.mono ?_
          rintro e w8 ⟨rfl, g8⟩
          go_wp2_with fail
          refine (wlive_any _).mono ?_
          rintro e w9 ⟨rfl, g9⟩
          go_wp2
          go_ret
          exact ⟨rfl, grown_below (grown_trans g17 (grown_trans hgx (grown_trans g8 g9)))⟩
end Go.Proofs.Ytoadpjegdhlphaa
