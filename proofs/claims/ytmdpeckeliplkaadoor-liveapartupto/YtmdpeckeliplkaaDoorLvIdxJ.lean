/- Numbers among others, and all of some nodes before another one, by the walk. -/
import Derived.Test.YtmdpeckeliplkaaDoorLvRowsJ
import Derived.BigQuiet
namespace Go.Proofs.YtmdpeckeliplkaaDoor
open Go.RowKit

theorem grown_drewN {a b : World} (h : a.grownBy b none) (n : Nat) : a.grownBy (b.drewN n) none := ⟨h.os, h.tape, h.output, h.size, h.block⟩

theorem int_at {w : World} {a : Option Addr} {l c : Nat} {zs : List Int} (h : IsInts w (.slice a l c) zs) {k : Nat} (hk : k < zs.length) : ∃ b off, a = some ⟨b, off, none⟩ ∧ w.cell? ⟨b, off + k, none⟩ = some (.int .i64 zs[k]) := by
  obtain ⟨b, off, e, hc⟩ := ints_addrG h hk
  refine ⟨b, off, e, hc.trans ?_⟩
  rw [List.getD, List.getElem?_eq_getElem hk]
  rfl

set_option maxRecDepth 100000 in
set_option maxHeartbeats 1600000 in
theorem index_int (v : Value) (xs : List Int) (x : Int) (w : World) (hv : IsInts w v xs) :
    Calls Tryd.prog 69 #[v, .int .i64 x] w fun e w' => e = .returned (.int .i64 (place (fun z => x == z) xs 0)) ∧ w' = w := by
  have HV := hide hv
  obtain ⟨ao, cap, rfl, h1, h2, h3, -⟩ := hv
  go_enter Tryd.func69, Tryd.ntmps69
  go_wp2_with fail
  go_loopw [8] (fun i wr => wr = w ∧ ∃ k : Nat, k ≤ xs.length ∧ i = .int .i64 k ∧ place (fun z => x == z) xs 0 = place (fun z => x == z) (xs.drop k) k) (fun i _ => xs.length - (intOf i).toNat)
  case atStart => exact ⟨rfl, 0, Nat.zero_le _, rfl, rfl⟩
  case round =>
    obtain ⟨rfl, k, hk, rfl, hpl⟩ := hrel
    have HPL := hide hpl
    clear hpl
    by_cases hlt : k < xs.length
    · obtain ⟨b, off, rfl, a0⟩ := int_at HV.out hlt
      have HP1 := hide (place_at (P := fun z => x == z) hlt)
      have HP2 := hide (place_past (P := fun z => x == z) hlt)
      obtain ⟨z, hz⟩ : ∃ z, z = xs[k] := ⟨_, rfl⟩
      rw [← hz] at a0 HP1 HP2
      clear hz
      cases ht : (x == z) with
      | true =>
        have HT := hide ht
        go_wp2
        go_ret
        exact ⟨by rw [HPL.out, HP1.out HT.out]; rfl, rfl⟩
      | false =>
        have HT := hide ht
        go_wp2
        go_roundw
        case rel => exact ⟨by trivial, k + 1, by omega, by go_num, by rw [HPL.out, HP2.out HT.out]⟩
        case measure => simp [intOf]; omega
    · obtain rfl : k = xs.length := by omega
      go_wp2
      go_ret
      exact ⟨by rw [HPL.out, List.drop_of_length_le (Nat.le_refl _)]; rfl, rfl⟩

set_option maxRecDepth 100000 in
theorem contains_int (v : Value) (xs : List Int) (x : Int) (w : World) (hv : IsInts w v xs) :
    Calls Tryd.prog 59 #[v, .int .i64 x] w fun e w' => e = .returned (.bool (xs.contains x)) ∧ w' = w := by
  have IX := hide (index_int v xs x w hv)
  have HE : Hid (decide (0 ≤ place (fun z => x == z) xs 0) = xs.contains x) := by
    show _ = _
    rw [place_ge, List.contains_eq_any_beq]
  clear hv
  obtain ⟨P, hP⟩ : ∃ P, P = place (fun z => x == z) xs 0 := ⟨_, rfl⟩
  rw [← hP] at IX HE
  clear hP
  go_enter Tryd.func59, Tryd.ntmps59
  go_wp2_with fail
  refine IX.out.mono ?_
  rintro e w1 ⟨rfl, rfl⟩
  go_wp2
  go_ret
  exact ⟨by rw [← HE.out]; rfl, rfl⟩

/-- Is node r not before node b? -/
def notB (M : List (List Bool)) (b : Nat) (r : Int) : Bool := !((M.getD r.toNat []).getD b false)

set_option maxRecDepth 100000 in
set_option maxHeartbeats 1600000 in
theorem notb_any (Q n b p u : Nat) (q : Nat → Nat) (M : List (List Bool)) (r : Int) (w : World) (hb : b < n) (hr : 0 ≤ r ∧ r < (n : Int)) (hM : Rb w Q n q M) (hp : w.heap[p]? = some (.cells #[.slice (some ⟨Q, 0, none⟩) n n] 30 (0, 0))) (hu : w.heap[u]? = some (.cells #[.int .i64 (b : Int)] 3 (0, 0))) :
    Calls Tryd.prog 71 #[.int .i64 r, .pointer (some ⟨p, 0, none⟩), .pointer (some ⟨u, 0, none⟩)] w fun e w' => e = .returned (.bool (notB M b r)) ∧ w.grownBy w' none := by
  obtain ⟨k, rfl⟩ : ∃ k : Nat, r = (k : Int) := ⟨r.toNat, by omega⟩
  have hk : k < n := by omega
  have c1 := one_cell hp
  have c2 := one_cell hu
  have c3 := hM.row k hk
  have c4 := hM.bit k hk b hb
  have HE : Hid (notB M b (k : Int) = !((M.getD k []).getD b false)) := rfl
  obtain ⟨x, hx⟩ : ∃ x, x = (M.getD k []).getD b false := ⟨_, rfl⟩
  rw [← hx] at c4 HE
  obtain ⟨N, hN⟩ : ∃ N, N = notB M b (k : Int) := ⟨_, rfl⟩
  rw [← hN] at HE ⊢
  have h0 : (0 : Int) ≤ (k : Int) := Int.natCast_nonneg _
  have h1 : (k : Int) < (n : Int) := by omega
  have h2 : (0 : Int) ≤ (b : Int) := Int.natCast_nonneg _
  have h3 : (b : Int) < (n : Int) := by omega
  clear hM hp hu hx hN hr
  go_enter Tryd.func71, Tryd.ntmps71
  go_wp2_with fail
  go_quiet (fail)
  go_wp2
  go_ret
  exact ⟨by rw [HE.out]; rfl, grown_drewN (grown_refl _) _⟩

set_option maxRecDepth 100000 in
set_option maxHeartbeats 1600000 in
theorem index_notb (v : Value) (xs : List Int) (Q n b p u : Nat) (q : Nat → Nat) (M : List (List Bool)) (w : World) (hv : IsInts w v xs) (hb : b < n) (hr : ∀ r ∈ xs, 0 ≤ r ∧ r < (n : Int)) (hM : Rb w Q n q M) (hp : w.heap[p]? = some (.cells #[.slice (some ⟨Q, 0, none⟩) n n] 30 (0, 0))) (hu : w.heap[u]? = some (.cells #[.int .i64 (b : Int)] 3 (0, 0))) :
    Calls Tryd.prog 85 #[v, .func (.func 71) #[] #[.pointer (some ⟨p, 0, none⟩), .pointer (some ⟨u, 0, none⟩)]] w fun e w' => e = .returned (.int .i64 (place (notB M b) xs 0)) ∧ w.grownBy w' none := by
  have HV := hide hv
  have HM := hide hM
  have HR := hide hr
  have HP := hide hp
  have HU := hide hu
  obtain ⟨ao, cap, rfl, h1, h2, h3, -⟩ := hv
  clear hM hp hu hr
  go_enter Tryd.func85, Tryd.ntmps85
  go_wp2_with fail
  go_loopw [8] (fun i wr => w.grownBy wr none ∧ ∃ k : Nat, k ≤ xs.length ∧ i = .int .i64 k ∧ place (notB M b) xs 0 = place (notB M b) (xs.drop k) k) (fun i _ => xs.length - (intOf i).toNat)
  case atStart => exact ⟨grown_refl _, 0, Nat.zero_le _, rfl, rfl⟩
  case round =>
    obtain ⟨hg, k, hk, rfl, hpl⟩ := hrel
    have HPL := hide hpl
    clear hpl
    by_cases hlt : k < xs.length
    · obtain ⟨b9, off, rfl, a0⟩ := int_at (HV.out.more hg) hlt
      have NA := hide (fun (wx : World) (hx : w.grownBy wx none) => notb_any Q n b p u q M xs[k] wx hb (HR.out _ (List.getElem_mem hlt)) (HM.out.more hx) (box_kept HP.out hx) (box_kept HU.out hx))
      go_wp2_with fail
      refine (NA.out wr hg).mono ?_
      rintro e w1 ⟨rfl, hg1⟩
      have g1 := grown_trans hg hg1
      cases ht : notB M b xs[k] with
      | true =>
        have HT := hide ht
        clear ht
        go_wp2
        go_ret
        exact ⟨by rw [HPL.out, place_at hlt HT.out]; rfl, g1⟩
      | false =>
        have HT := hide ht
        clear ht
        go_wp2
        go_roundw
        case rel => exact ⟨g1, k + 1, by omega, by go_num, by rw [HPL.out, place_past hlt HT.out]⟩
        case measure => simp [intOf]; omega
    · obtain rfl : k = xs.length := by omega
      go_wp2
      go_ret
      exact ⟨by rw [HPL.out, List.drop_of_length_le (Nat.le_refl _)]; rfl, hg⟩

set_option maxRecDepth 100000 in
theorem contains_notb (v : Value) (xs : List Int) (Q n b p u : Nat) (q : Nat → Nat) (M : List (List Bool)) (w : World) (hv : IsInts w v xs) (hb : b < n) (hr : ∀ r ∈ xs, 0 ≤ r ∧ r < (n : Int)) (hM : Rb w Q n q M) (hp : w.heap[p]? = some (.cells #[.slice (some ⟨Q, 0, none⟩) n n] 30 (0, 0))) (hu : w.heap[u]? = some (.cells #[.int .i64 (b : Int)] 3 (0, 0))) :
    Calls Tryd.prog 70 #[v, .func (.func 71) #[] #[.pointer (some ⟨p, 0, none⟩), .pointer (some ⟨u, 0, none⟩)]] w fun e w' => e = .returned (.bool (xs.any (notB M b))) ∧ w.grownBy w' none := by
  have IX := hide (index_notb v xs Q n b p u q M w hv hb hr hM hp hu)
  have HE : Hid (decide (0 ≤ place (notB M b) xs 0) = xs.any (notB M b)) := place_ge _ _
  clear hv hr hM hp hu
  obtain ⟨P, hP⟩ : ∃ P, P = place (notB M b) xs 0 := ⟨_, rfl⟩
  rw [← hP] at IX HE
  clear hP
  go_enter Tryd.func70, Tryd.ntmps70
  go_wp2_with fail
  refine IX.out.mono ?_
  rintro e w1 ⟨rfl, hg1⟩
  go_wp2
  go_ret
  exact ⟨by rw [← HE.out]; rfl, hg1⟩

/-- Are all of some nodes before another one? -/
def allB (M : List (List Bool)) (rs : List Int) (b : Nat) : Bool := rs.all (fun r => (M.getD r.toNat []).getD b false)

theorem not_any_not (M : List (List Bool)) (b : Nat) : ∀ rs : List Int, (!(rs.any (notB M b))) = allB M rs b
  | [] => rfl
  | r :: rs => by
    unfold allB
    rw [List.any_cons, List.all_cons, Bool.not_or, not_any_not M b rs]
    simp [notB, allB]

set_option maxRecDepth 100000 in
set_option maxHeartbeats 1600000 in
theorem allbefore_any (v : Value) (xs : List Int) (Q n b : Nat) (q : Nat → Nat) (M : List (List Bool)) (w : World) (hv : IsInts w v xs) (hb : b < n) (hr : ∀ r ∈ xs, 0 ≤ r ∧ r < (n : Int)) (hM : Rb w Q n q M) :
    Calls Tryd.prog 60 #[.slice (some ⟨Q, 0, none⟩) n n, v, .int .i64 (b : Int)] w fun e w' => e = .returned (.bool (allB M xs b)) ∧ w.grownBy w' none := by
  have HE := hide (not_any_not M b xs)
  obtain ⟨w0, hw0⟩ : ∃ w0, w0 = (w.alloc (.cells #[.slice (some ⟨Q, 0, none⟩) n n] 30)).alloc (.cells #[.int .i64 (b : Int)] 3) := ⟨_, rfl⟩
  have g0 : w.grownBy w0 none := by rw [hw0]; exact grown_trans (grown_new _ _) (grown_new _ _)
  have hbx := two_boxes w (.cells #[.slice (some ⟨Q, 0, none⟩) n n] 30) (.cells #[.int .i64 (b : Int)] 3)
  rw [← hw0] at hbx
  have CN := hide (contains_notb v xs Q n b w.heap.size (w.heap.size + 1) q M w0 (hv.more g0) hb hr (hM.more g0) hbx.1 hbx.2)
  obtain ⟨A, hA⟩ : ∃ A, A = xs.any (notB M b) := ⟨_, rfl⟩
  obtain ⟨C, hC⟩ : ∃ C, C = allB M xs b := ⟨_, rfl⟩
  rw [← hA] at CN HE
  rw [← hC] at HE ⊢
  clear hv hr hM hbx hA hC
  go_enter Tryd.func60, Tryd.ntmps60
  go_wp2_with fail
  rw [← hw0]
  clear hw0
  refine CN.out.mono ?_
  rintro e w1 ⟨rfl, hg1⟩
  go_wp2
  go_ret
  exact ⟨by rw [HE.out]; rfl, grown_trans g0 hg1⟩
end Go.Proofs.YtmdpeckeliplkaaDoor
