/- package step's steps, and linear.product, by the walk. -/
import Derived.Test.YtfladhogkhhlcaaGreatDoorPartZ
import Derived.Test.YtfladhogkhhlcaaGreatDoorPartB
import Derived.Test.YtfladhogkhhlcaaGreatDoorPartO
import Derived.Test.YtfladhogkhhlcaaGreatDoorNPbJ
import Derived.BigQuiet
namespace Go.Proofs.YtfladhogkhhlcaaGreatDoor
open Go.RowKit

set_option maxRecDepth 100000 in
theorem stwo_any (op : ByteArray) (ty : Int) (w : World) : Calls Tryz.prog 43 #[.string op, .int .i64 ty] w fun e w' => e = .returned (.func (.func 74) #[] #[.pointer (some ⟨w.heap.size, 0, none⟩), .pointer (some ⟨w.heap.size + 1, 0, none⟩)]) ∧ w.grownBy w' none ∧ w'.heap[w.heap.size]? = some (.cells #[.string op] 9 (0, 0)) ∧ w'.heap[w.heap.size + 1]? = some (.cells #[.int .i64 ty] 3 (0, 0)) := by
  have hmf : ∀ (fn : Fn) (first cap : Array Value) (w : World), (Instr.makeFunc fn first cap).run Tryz.prog w = .ok (.func fn first cap) w := fun _ _ _ _ => rfl
  have B2 := hide (two_boxes w (.cells #[.string op] 9) (.cells #[.int .i64 ty] 3))
  have G2 := hide (grown_trans (grown_new w (.cells #[.string op] 9)) (grown_new _ (.cells #[.int .i64 ty] 3)))
  go_enter Tryz.func43, Tryz.ntmps43
  go_wp2
  go_ret
  exact ⟨rfl, G2.out, B2.out.1, B2.out.2⟩

/-- What lies in a step's boxes. -/
def StepB (op : ByteArray) (w : World) (p1 p2 : Nat) : Prop := w.heap[p1]? = some (.cells #[.string op] 9 (0, 0)) ∧ w.heap[p2]? = some (.cells #[.int .i64 1] 3 (0, 0))

theorem StepB.more {op : ByteArray} {w w' : World} {p1 p2 : Nat} (h : StepB op w p1 p2) (hg : w.grownBy w' none) : StepB op w' p1 p2 := ⟨box_kept h.1 hg, box_kept h.2 hg⟩

set_option maxRecDepth 100000 in
set_option maxHeartbeats 1000000 in
theorem sadd_any (p1 p2 : Nat) (x y : Int) (w : World) (h : StepB ⟨#[65, 100, 100]⟩ w p1 p2) : Calls Tryz.prog 74 #[.int .i64 x, .int .i64 y, .pointer (some ⟨p1, 0, none⟩), .pointer (some ⟨p2, 0, none⟩)] w fun e w' => e = .returned (.int .i64 (fadd x y)) ∧ w.grownBy w' none := by
  have c1 := one_cell h.1
  have c2 := one_cell h.2
  have BB := hide (fun (wx : World) => Nu.binary0 1 x y wx)
  clear h
  go_enter Tryz.func74, Tryz.ntmps74
  go_wp2_with (first | (go_at_call 75; refine (BB.out _).mono ?_; rintro e w' ⟨rfl, q, rfl⟩) | fail)
  go_ret
  exact ⟨rfl, ⟨rfl, rfl, rfl, Nat.le_refl _, fun k hk hn => rfl⟩⟩

set_option maxRecDepth 100000 in
set_option maxHeartbeats 1000000 in
theorem smul_any (p1 p2 : Nat) (x y : Int) (w : World) (h : StepB ⟨#[77, 117, 108]⟩ w p1 p2) : Calls Tryz.prog 74 #[.int .i64 x, .int .i64 y, .pointer (some ⟨p1, 0, none⟩), .pointer (some ⟨p2, 0, none⟩)] w fun e w' => e = .returned (.int .i64 (fmul x y)) ∧ w.grownBy w' none := by
  have c1 := one_cell h.1
  have c2 := one_cell h.2
  have BB := hide (fun (wx : World) => Nu.binary2 1 x y wx)
  clear h
  go_enter Tryz.func74, Tryz.ntmps74
  go_wp2_with (first | (go_at_call 75; refine (BB.out _).mono ?_; rintro e w' ⟨rfl, q, rfl⟩) | fail)
  go_ret
  exact ⟨rfl, ⟨rfl, rfl, rfl, Nat.le_refl _, fun k hk hn => rfl⟩⟩

theorem dot_step (s : Int) : ∀ (xs ys : List Int) (k : Nat), k < xs.length → k < ys.length → dotF s (xs.take (k + 1)) (ys.take (k + 1)) = fadd (dotF s (xs.take k) (ys.take k)) (fmul (xs.getD k 0) (ys.getD k 0)) := by
  intro xs ys k h1 h2
  rw [List.take_add_one, List.take_add_one, List.getElem?_eq_getElem h1, List.getElem?_eq_getElem h2]
  simp only [Option.toList_some]
  rw [dotF_snoc _ _ _ _ _ (by rw [List.length_take, List.length_take]; omega)]
  simp [List.getD, h1, h2]

theorem dot_take : ∀ (xs ys : List Int) (s : Int), dotF s xs (ys.take xs.length) = dotF s xs ys
  | [], ys, s => by simp [dotF]
  | x :: xs, [], s => by simp [dotF]
  | x :: xs, y :: ys, s => by simp only [List.length_cons, List.take_succ_cons, dotF]; exact dot_take xs ys _

set_option maxRecDepth 100000 in
set_option maxHeartbeats 4000000 in
theorem lproduct_any (r c : Sl) (xs ys : List Int) (w : World) (hx : IsInts w r.v xs) (hy : IsInts w c.v ys) (hl : xs.length ≤ ys.length) : Calls Tryz.prog 71 #[.slice r.a r.n r.c, .slice c.a c.n c.c] w fun e w' => e = .returned (.int .i64 (dotF 0 xs ys)) ∧ w.grownBy w' none := by
  obtain ⟨ux, uc, eu, c1, c2, c3⟩ := hx.sl
  obtain ⟨ra, rn, rc⟩ := r
  simp only [Sl.v, Value.slice.injEq] at eu
  obtain ⟨rfl, rfl, rfl⟩ := eu
  obtain ⟨vx, vc, ev, d1, d2, d3⟩ := hy.sl
  obtain ⟨ca, cn, cc⟩ := c
  simp only [Sl.v, Value.slice.injEq] at ev
  obtain ⟨rfl, rfl, rfl⟩ := ev
  simp only
  have HX := hide hx
  have HY := hide hy
  have HL := hide hl
  have TA := hide (stwo_any ⟨#[65, 100, 100]⟩ 1 w)
  clear hx hy
  go_enter Tryz.func71, Tryz.ntmps71
  go_wp2_with fail
  refine TA.out.mono ?_
  rintro e w1 ⟨rfl, hg1, k1, k2⟩
  have S1 : Hid (StepB ⟨#[65, 100, 100]⟩ w1 w.heap.size (w.heap.size + 1)) := ⟨k1, k2⟩
  have G1 := hide hg1
  have TM := hide (stwo_any ⟨#[77, 117, 108]⟩ 1 w1)
  clear k1 k2 hg1
  go_wp2_with fail
  refine TM.out.mono ?_
  rintro e w2 ⟨rfl, hg2, k1, k2⟩
  have S2 : Hid (StepB ⟨#[77, 117, 108]⟩ w2 w1.heap.size (w1.heap.size + 1)) := ⟨k1, k2⟩
  have S1 := hide (S1.out.more hg2)
  have G2 := hide (grown_trans G1.out hg2)
  obtain ⟨A, hA⟩ : ∃ A, A = w.heap.size := ⟨_, rfl⟩
  obtain ⟨M, hM⟩ : ∃ M, M = w1.heap.size := ⟨_, rfl⟩
  rw [← hA] at S1 ⊢
  rw [← hM] at S2 ⊢
  clear k1 k2 hg2 hA hM
  go_wp2_with fail
  go_loopw [7, 14] (fun s i wr => w2.grownBy wr none ∧ ∃ (k : Nat), k ≤ xs.length ∧ i = .int .i64 k ∧ s = .int .i64 (dotF 0 (xs.take k) (ys.take k))) (fun _ i _ => xs.length - (intOf i).toNat)
  case atStart => exact ⟨grown_refl _, 0, Nat.zero_le _, rfl, rfl⟩
  case round =>
    obtain ⟨hg, k, hk, rfl, hs⟩ := hrel
    obtain ⟨s0, hs0⟩ : ∃ s0, s0 = dotF 0 (xs.take k) (ys.take k) := ⟨_, rfl⟩
    rw [← hs0] at hs
    subst hs
    have HG := hide hg
    by_cases hlt : k < xs.length
    · have hlt2 : k < ys.length := by omega
      obtain ⟨b, off, rfl, hc⟩ := HX.out.get (k := k) hlt
      obtain ⟨b2, off2, rfl, hc2⟩ := HY.out.get (k := k) hlt2
      have z1 := cell_still (hc k hlt) (grown_trans G2.out hg)
      have z2 := cell_still (hc2 k hlt2) (grown_trans G2.out hg)
      have DS := hide (dot_step 0 xs ys k hlt hlt2)
      rw [← hs0] at DS
      obtain ⟨x, hx⟩ : ∃ x, x = xs.getD k 0 := ⟨_, rfl⟩
      obtain ⟨y, hy⟩ : ∃ y, y = ys.getD k 0 := ⟨_, rfl⟩
      rw [← hx] at z1 DS
      rw [← hy] at z2 DS
      have MC := hide (smul_any M (M + 1) x y wr (S2.out.more hg))
      have AC := hide (fun (wx : World) (hh : w2.grownBy wx none) => sadd_any A (A + 1) s0 (fmul x y) wx (S1.out.more hh))
      obtain ⟨p, hp⟩ : ∃ p, p = fmul x y := ⟨_, rfl⟩
      rw [← hp] at MC AC DS
      obtain ⟨t, ht⟩ : ∃ t, t = fadd s0 p := ⟨_, rfl⟩
      rw [← ht] at AC DS
      have q1 : (k : Int) < ys.length := by omega
      clear hc hc2 hg hs0 hx hy hp ht
      go_wp2_with fail
      refine MC.out.mono ?_
      rintro e w3 ⟨rfl, hg3⟩
      have G3 := hide (grown_trans HG.out hg3)
      clear hg3
      go_wp2_with fail
      refine (AC.out _ G3.out).mono ?_
      rintro e w4 ⟨rfl, hg4⟩
      have G4 := hide (grown_trans G3.out hg4)
      clear hg4
      go_wp2_with fail
      go_roundw
      case rel => exact ⟨G4.out, k + 1, by omega, by go_num, by rw [DS.out]⟩
      case measure => simp [intOf]; omega
    · obtain rfl : k = xs.length := by omega
      have E : Hid (s0 = dotF 0 xs ys) := by show _ = _; rw [hs0, List.take_of_length_le (Nat.le_refl _), dot_take]
      clear hg hs0
      go_wp2
      go_ret
      have e0 := E.out
      subst e0
      exact ⟨rfl, grown_trans G2.out HG.out⟩
end Go.Proofs.YtfladhogkhhlcaaGreatDoor
