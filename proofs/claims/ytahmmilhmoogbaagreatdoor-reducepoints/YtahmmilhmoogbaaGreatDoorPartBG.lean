/- Joined texts: RdStep, RdMax, RdMean, RdArg, RdArg2. -/
import Derived.Test.YtahmmilhmoogbaaGreatDoorPartBF
import Derived.Test.YtahmmilhmoogbaaGreatDoorPartAZ
import Derived.Test.YtahmmilhmoogbaaGreatDoorPartAY
import Derived.Laws.EntriesVeiled
import Derived.Deep.RegionHeld3
namespace Go.Proofs.YtahmmilhmoogbaaGreatDoor

open Go.RowKit

def StepT (op : ByteArray) (ty : Int) (w : World) (p1 p2 : Nat) : Prop := w.heap[p1]? = some (.cells #[.string op] 9 (0, 0)) ∧ w.heap[p2]? = some (.cells #[.int .i64 ty] 3 (0, 0))

theorem StepT.more {op : ByteArray} {ty : Int} {w w' : World} {p1 p2 : Nat} (h : StepT op ty w p1 p2) (hg : w.grownBy w' none) : StepT op ty w' p1 p2 := ⟨box_kept h.1 hg, box_kept h.2 hg⟩

def stepV (p1 p2 : Nat) : Value := .func (.func 61) #[] #[.pointer (some ⟨p1, 0, none⟩), .pointer (some ⟨p2, 0, none⟩)]

def StepQ (g : Int → Int → Int) (w : World) (p1 p2 : Nat) : Prop := ∀ (x y : Int) (wx : World), w.grownBy wx none → Calls Tryz.prog 61 #[.int .i64 x, .int .i64 y, .pointer (some ⟨p1, 0, none⟩), .pointer (some ⟨p2, 0, none⟩)] wx fun e w' => e = .returned (.int .i64 (g x y)) ∧ wx.grownBy w' none

theorem StepQ.more {g : Int → Int → Int} {w w' : World} {p1 p2 : Nat} (h : StepQ g w p1 p2) (hg : w.grownBy w' none) : StepQ g w' p1 p2 := fun x y wx hx => h x y wx (grown_trans hg hx)

set_option maxRecDepth 100000 in
set_option maxHeartbeats 1000000 in
theorem step_Add {ty : Int} {p1 p2 : Nat} {w : World} (h : StepT ⟨#[65, 100, 100]⟩ ty w p1 p2) : StepQ (fun x y => (Nu.bin 0 ty x y).1) w p1 p2 := fun x y wx hx => by
  have c1 := one_cell (h.more hx).1
  have c2 := one_cell (h.more hx).2
  have BB := hide (fun (wx : World) => Nu.binary0 ty x y wx)
  clear h
  go_enter Tryz.func61, Tryz.ntmps61
  go_wp2_with (first | (go_at_call 62; refine (BB.out _).mono ?_; rintro e w' ⟨rfl, q, rfl⟩) | fail)
  go_ret
  exact ⟨rfl, ⟨rfl, rfl, rfl, Nat.le_refl _, fun k hk hn => rfl⟩⟩

set_option maxRecDepth 100000 in
set_option maxHeartbeats 1000000 in
theorem step_Sub {ty : Int} {p1 p2 : Nat} {w : World} (h : StepT ⟨#[83, 117, 98]⟩ ty w p1 p2) : StepQ (fun x y => (Nu.bin 1 ty x y).1) w p1 p2 := fun x y wx hx => by
  have c1 := one_cell (h.more hx).1
  have c2 := one_cell (h.more hx).2
  have BB := hide (fun (wx : World) => Nu.binary1 ty x y wx)
  clear h
  go_enter Tryz.func61, Tryz.ntmps61
  go_wp2_with (first | (go_at_call 62; refine (BB.out _).mono ?_; rintro e w' ⟨rfl, q, rfl⟩) | fail)
  go_ret
  exact ⟨rfl, ⟨rfl, rfl, rfl, Nat.le_refl _, fun k hk hn => rfl⟩⟩

set_option maxRecDepth 100000 in
set_option maxHeartbeats 1000000 in
theorem step_Div {ty : Int} {p1 p2 : Nat} {w : World} (h : StepT ⟨#[68, 105, 118]⟩ ty w p1 p2) : StepQ (fun x y => (Nu.bin 3 ty x y).1) w p1 p2 := fun x y wx hx => by
  have c1 := one_cell (h.more hx).1
  have c2 := one_cell (h.more hx).2
  have BB := hide (fun (wx : World) => Nu.binary3 ty x y wx)
  clear h
  go_enter Tryz.func61, Tryz.ntmps61
  go_wp2_with (first | (go_at_call 62; refine (BB.out _).mono ?_; rintro e w' ⟨rfl, q, rfl⟩) | fail)
  go_ret
  exact ⟨rfl, ⟨rfl, rfl, rfl, Nat.le_refl _, fun k hk hn => rfl⟩⟩

set_option maxRecDepth 100000 in
set_option maxHeartbeats 1000000 in
theorem step_Max {ty : Int} {p1 p2 : Nat} {w : World} (h : StepT ⟨#[77, 97, 120]⟩ ty w p1 p2) : StepQ (fun x y => (Nu.bin 4 ty x y).1) w p1 p2 := fun x y wx hx => by
  have c1 := one_cell (h.more hx).1
  have c2 := one_cell (h.more hx).2
  have BB := hide (fun (wx : World) => Nu.binary4 ty x y wx)
  clear h
  go_enter Tryz.func61, Tryz.ntmps61
  go_wp2_with (first | (go_at_call 62; refine (BB.out _).mono ?_; rintro e w' ⟨rfl, q, rfl⟩) | fail)
  go_ret
  exact ⟨rfl, ⟨rfl, rfl, rfl, Nat.le_refl _, fun k hk hn => rfl⟩⟩

set_option maxRecDepth 100000 in
set_option maxHeartbeats 1000000 in
theorem step_Greater {ty : Int} {p1 p2 : Nat} {w : World} (h : StepT ⟨#[71, 114, 101, 97, 116, 101, 114]⟩ ty w p1 p2) : StepQ (fun x y => (Nu.bin 11 ty x y).1) w p1 p2 := fun x y wx hx => by
  have c1 := one_cell (h.more hx).1
  have c2 := one_cell (h.more hx).2
  have BB := hide (fun (wx : World) => Nu.binary11 ty x y wx)
  clear h
  go_enter Tryz.func61, Tryz.ntmps61
  go_wp2_with (first | (go_at_call 62; refine (BB.out _).mono ?_; rintro e w' ⟨rfl, q, rfl⟩) | fail)
  go_ret
  exact ⟨rfl, ⟨rfl, rfl, rfl, Nat.le_refl _, fun k hk hn => rfl⟩⟩

set_option maxRecDepth 100000 in
set_option maxHeartbeats 2000000 in
theorem tog_any (p1 p2 : Nat) (g : Int → Int → Int) (z : Int) (u : Sl) (xs : List Int) (w : World) (hx : IsInts w u.v xs) (B : StepQ g w p1 p2) : Calls Tryz.prog 41 #[.int .i64 z, .slice u.a u.n u.c, stepV p1 p2] w fun e w' => e = .returned (.int .i64 (xs.foldl g z)) ∧ w.grownBy w' none := by
  obtain ⟨ua, un, uc⟩ := u
  obtain ⟨_, _, eu, c1, c2, c3⟩ := hx.sl
  simp only [Sl.v, Value.slice.injEq] at eu
  obtain ⟨rfl, rfl, rfl⟩ := eu
  have HX := hide hx
  have HB := hide B
  clear hx B
  unfold stepV
  go_enter Tryz.func41, Tryz.ntmps41
  go_wp2
  go_loopw [0, 11] (fun a i wr => w.grownBy wr none ∧ ∃ k : Nat, k ≤ xs.length ∧ i = .int .i64 k ∧ a = .int .i64 ((xs.take k).foldl g z)) (fun _ i _ => xs.length - (intOf i).toNat)
  case atStart => exact ⟨grown_refl _, 0, Nat.zero_le _, rfl, rfl⟩
  case round =>
    obtain ⟨hg, k, hk, rfl, rfl⟩ := hrel
    have HG := hide hg
    by_cases hlt : k < xs.length
    · obtain ⟨b, off, rfl, hc⟩ := HX.out.get hlt
      have hcell := cell_still (hc k hlt) hg
      have ST : Hid ((xs.take (k + 1)).foldl g z = g ((xs.take k).foldl g z) (xs.getD k 0)) := by show _ = _; rw [take_step xs k hlt, List.foldl_append]; rfl
      obtain ⟨y, hy⟩ : ∃ y, y = xs.getD k 0 := ⟨_, rfl⟩
      obtain ⟨a, ha⟩ : ∃ a, a = (xs.take k).foldl g z := ⟨_, rfl⟩
      rw [← hy] at hcell ST
      rw [← ha] at ST ⊢
      have CB := hide (HB.out a y wr hg)
      have l1 : (k : Int) < (xs.length : Int) := by omega
      clear hg hc hy ha
      go_wp2_with (first | (go_at_call 61; refine CB.out.mono ?_; rintro e w1 ⟨rfl, hg1⟩) | fail)
      have HG1 := hide (grown_trans HG.out hg1)
      clear hg1
      go_roundw
      case rel => exact ⟨HG1.out, k + 1, by omega, by go_num, by rw [ST.out]⟩
      case measure => simp [intOf]; omega
    · have hke : k = xs.length := by omega
      subst hke
      rw [List.take_length]
      clear hg
      go_wp2
      go_ret
      exact ⟨rfl, HG.out⟩

def OneB (g : Int → Int → Int) (w : World) (b : Nat) : Prop := ∃ p1 p2 : Nat, w.heap[b]? = some (.cells #[stepV p1 p2] 69 (0, 0)) ∧ StepQ g w p1 p2

theorem OneB.more {g : Int → Int → Int} {w w' : World} {b : Nat} (h : OneB g w b) (hg : w.grownBy w' none) : OneB g w' b := by
  obtain ⟨p1, p2, h1, h2⟩ := h
  exact ⟨p1, p2, box_kept h1 hg, h2.more hg⟩

set_option maxRecDepth 100000 in
set_option maxHeartbeats 1000000 in
theorem sum_any (ty : Int) (w : World) : Calls Tryz.prog 23 #[.int .i64 ty] w fun e w' => ∃ b : Nat, e = .returned (.func (.func 40) #[] #[.pointer (some ⟨b, 0, none⟩)]) ∧ OneB (fun x y => (Nu.bin 0 ty x y).1) w' b ∧ w.grownBy w' none := by
  have hmf : ∀ (fn : Fn) (first cap : Array Value) (w : World), (Instr.makeFunc fn first cap).run Tryz.prog w = .ok (.func fn first cap) w := fun _ _ _ _ => rfl
  have S2 := hide (stwo_any ⟨#[65, 100, 100]⟩ ty w)
  go_enter Tryz.func23, Tryz.ntmps23
  go_wp2_with (first | (go_at_call 39; refine S2.out.mono ?_; rintro e w1 ⟨rfl, hg1, hb1, hb2⟩) | fail)
  go_ret
  have g2 := grown_new w1 (.cells #[stepV w.heap.size (w.heap.size + 1)] 69)
  exact ⟨_, rfl, ⟨w.heap.size, w.heap.size + 1, heap_alloc_new _ _, step_Add ⟨box_kept hb1 g2, box_kept hb2 g2⟩⟩, grown_trans hg1 g2⟩

set_option maxRecDepth 100000 in
set_option maxHeartbeats 1000000 in
theorem greatest_any (ty : Int) (w : World) : Calls Tryz.prog 25 #[.int .i64 ty] w fun e w' => ∃ b : Nat, e = .returned (.func (.func 43) #[] #[.pointer (some ⟨b, 0, none⟩)]) ∧ OneB (fun x y => (Nu.bin 4 ty x y).1) w' b ∧ w.grownBy w' none := by
  have hmf : ∀ (fn : Fn) (first cap : Array Value) (w : World), (Instr.makeFunc fn first cap).run Tryz.prog w = .ok (.func fn first cap) w := fun _ _ _ _ => rfl
  have S2 := hide (stwo_any ⟨#[77, 97, 120]⟩ ty w)
  go_enter Tryz.func25, Tryz.ntmps25
  go_wp2_with (first | (go_at_call 39; refine S2.out.mono ?_; rintro e w1 ⟨rfl, hg1, hb1, hb2⟩) | fail)
  go_ret
  have g2 := grown_new w1 (.cells #[stepV w.heap.size (w.heap.size + 1)] 69)
  exact ⟨_, rfl, ⟨w.heap.size, w.heap.size + 1, heap_alloc_new _ _, step_Max ⟨box_kept hb1 g2, box_kept hb2 g2⟩⟩, grown_trans hg1 g2⟩

set_option maxRecDepth 100000 in
set_option maxHeartbeats 1000000 in
theorem firstGreatest_any (ty : Int) (w : World) : Calls Tryz.prog 26 #[.int .i64 ty] w fun e w' => ∃ b : Nat, e = .returned (.func (.func 44) #[] #[.pointer (some ⟨b, 0, none⟩)]) ∧ OneB (fun x y => (Nu.bin 11 ty x y).1) w' b ∧ w.grownBy w' none := by
  have hmf : ∀ (fn : Fn) (first cap : Array Value) (w : World), (Instr.makeFunc fn first cap).run Tryz.prog w = .ok (.func fn first cap) w := fun _ _ _ _ => rfl
  have S2 := hide (stwo_any ⟨#[71, 114, 101, 97, 116, 101, 114]⟩ ty w)
  go_enter Tryz.func26, Tryz.ntmps26
  go_wp2_with (first | (go_at_call 39; refine S2.out.mono ?_; rintro e w1 ⟨rfl, hg1, hb1, hb2⟩) | fail)
  go_ret
  have g2 := grown_new w1 (.cells #[stepV w.heap.size (w.heap.size + 1)] 69)
  exact ⟨_, rfl, ⟨w.heap.size, w.heap.size + 1, heap_alloc_new _ _, step_Greater ⟨box_kept hb1 g2, box_kept hb2 g2⟩⟩, grown_trans hg1 g2⟩

set_option maxRecDepth 100000 in
set_option maxHeartbeats 1000000 in
theorem sum1_any (g : Int → Int → Int) (b : Nat) (u : Sl) (xs : List Int) (w : World) (hx : IsInts w u.v xs) (hb : OneB g w b) : Calls Tryz.prog 40 #[.slice u.a u.n u.c, .pointer (some ⟨b, 0, none⟩)] w fun e w' => e = .returned (.int .i64 (xs.foldl g 0)) ∧ w.grownBy w' none := by
  obtain ⟨p1, p2, h1, h2⟩ := hb
  have c1 := one_cell h1
  have TG := hide (tog_any p1 p2 g 0 u xs w hx h2)
  obtain ⟨ua, un, uc⟩ := u
  unfold stepV at TG c1
  simp only at TG ⊢
  clear hx h1 h2
  go_enter Tryz.func40, Tryz.ntmps40
  go_wp2_with (first | (go_at_call 41; refine TG.out.mono ?_; rintro e w1 ⟨rfl, hg1⟩) | fail)
  go_ret
  exact ⟨rfl, hg1⟩

end Go.Proofs.YtahmmilhmoogbaaGreatDoor

namespace Go.Proofs.YtahmmilhmoogbaaGreatDoor

open Go.RowKit

theorem ints_partR {w : World} {b off n c : Nat} {zs : List Int} (h : IsInts w (.slice (some ⟨b, off, none⟩) n c) zs) (p m c' : Nat) (hp : p + m ≤ zs.length) (hc : p + c' ≤ c) (hm : m ≤ c') : IsInts w (.slice (some ⟨b, off + p, none⟩) m c') ((zs.drop p).take m) := by
  obtain ⟨a, c0, e, h1, h2, h3, -, h5, h6⟩ := h
  simp only [Value.slice.injEq] at e
  obtain ⟨rfl, -, rfl⟩ := e
  have hl : ((zs.drop p).take m).length = m := by rw [List.length_take, List.length_drop]; omega
  refine ⟨_, _, by rw [hl], by rw [hl]; exact hm, by omega, by rw [hl]; omega, (fun h => by cases h), fun _ => ⟨b, off + p, rfl, fun t ht => ?_⟩, fun z hz => h6 z (List.mem_of_mem_drop (List.mem_of_mem_take hz))⟩
  rw [hl] at ht
  obtain ⟨b', off', e', hcell⟩ := h5 (by omega)
  simp only [Option.some.injEq, Addr.mk.injEq] at e'
  obtain ⟨rfl, rfl, -⟩ := e'
  rw [Nat.add_assoc, hcell (p + t) (by omega)]
  congr 2
  simp only [List.getD]
  rw [List.getElem?_take_of_lt ht, List.getElem?_drop]

def maxL (g : Int → Int → Int) (xs : List Int) : Int := xs.tail.foldl g (xs.getD 0 0)

set_option maxRecDepth 100000 in
set_option maxHeartbeats 2000000 in
theorem greatest1_any (g : Int → Int → Int) (b : Nat) (u : Sl) (xs : List Int) (w : World) (hx : IsInts w u.v xs) (h0 : 0 < xs.length) (hb : OneB g w b) : Calls Tryz.prog 43 #[.slice u.a u.n u.c, .pointer (some ⟨b, 0, none⟩)] w fun e w' => e = .returned (.int .i64 (maxL g xs)) ∧ w.grownBy w' none := by
  obtain ⟨p1, p2, h1, h2⟩ := hb
  have c1 := one_cell h1
  obtain ⟨ua, un, uc⟩ := u
  obtain ⟨_, _, eu, d1, d2, d3⟩ := hx.sl
  simp only [Sl.v, Value.slice.injEq] at eu
  obtain ⟨rfl, rfl, rfl⟩ := eu
  obtain ⟨xb, xo, rfl, hc⟩ := hx.get h0
  have q0 := hc 0 h0
  rw [Nat.add_zero] at q0
  obtain ⟨C, hC⟩ : ∃ C, uc = 1 + C := ⟨uc - 1, by omega⟩
  obtain ⟨m, hm⟩ : ∃ m, xs.length = 1 + m := ⟨xs.length - 1, by omega⟩
  subst hC
  simp only [Sl.v] at hx
  rw [hm] at hx h0 d1 ⊢
  have hmC : m ≤ C := by omega
  have i1 : (0 : Int) < 1 + (m : Int) := by omega
  have HX := hide hx
  have H2 := hide h2
  obtain ⟨z, hz⟩ : ∃ z, z = xs.getD 0 0 := ⟨_, rfl⟩
  rw [← hz] at q0
  have HZ := hide hz
  have HM := hide hm
  unfold stepV at c1
  clear hx h1 h2 hc hz hm
  rcases Nat.eq_zero_or_pos C with hC0 | hC0
  · subst hC0
    obtain rfl : m = 0 := by omega
    have ED : xs.tail = [] := by rw [← List.drop_one]; exact List.drop_of_length_le (by rw [HM.out]; omega)
    have TG : Hid (∀ v, w.grownBy v none → Calls Tryz.prog 41 #[.int .i64 z, .slice (some ⟨xb, xo, none⟩) 0 0, .func (.func 61) #[] #[.pointer (some ⟨p1, 0, none⟩), .pointer (some ⟨p2, 0, none⟩)]] v fun e w' => e = .returned (.int .i64 (xs.tail.foldl g z)) ∧ v.grownBy w' none) := fun v hv => tog_any p1 p2 g z ⟨some ⟨xb, xo, none⟩, 0, 0⟩ xs.tail v (by rw [ED]; exact ⟨some ⟨xb, xo, none⟩, 0, rfl, Nat.le_refl _, Nat.zero_le _, by simp, fun h => by (first | exact ⟨rfl, rfl⟩ | cases h), fun h => by simp at h, fun z hz => by simp at hz⟩) (H2.out.more hv)
    clear ED
    go_enter Tryz.func43, Tryz.ntmps43
    go_upto_region 1 with fail
    refine wp_region_held_drew (S := fun w' => w.grownBy w' none) (by kernel_rfl) (grown_drew (grown_refl _)) (fun hHeld => ?_)
    refine wpAnyH_take (i := 0) (v := ?_) rfl (by kernel_rfl) (by kernel_rfl) (by kernel_rfl) (fun _ _ _ h => h) (Or.inl ⟨by kernel_rfl, ?_⟩) (by assumption) ?_
    rotate_left 1
    · (intro wS hSw; go_simp; (try with_reducible rfl))
    try simp only [Act.put]
    refine wpAnyH_take (i := 1) (v := ?_) rfl (by kernel_rfl) (by kernel_rfl) (by kernel_rfl) (fun _ _ _ h => h) (Or.inl ⟨by kernel_rfl, ?_⟩) (by assumption) ?_
    rotate_left 1
    · (intro wS hSw; go_simp; (try with_reducible rfl))
    try simp only [Act.put]
    refine wpAnyH_take (i := 2) (v := ?_) rfl (by kernel_rfl) (by kernel_rfl) (by kernel_rfl) (fun _ _ _ h => h) (Or.inl ⟨by kernel_rfl, ?_⟩) (by assumption) ?_
    rotate_left 1
    · (intro wS hSw; have c0 := cell_still q0 hSw; go_simp; (try with_reducible rfl))
    try simp only [Act.put]
    refine wpAnyH_take (i := 3) (v := ?_) rfl (by kernel_rfl) (by kernel_rfl) (by kernel_rfl) (fun _ _ _ h => h) (Or.inl ⟨by kernel_rfl, ?_⟩) (by assumption) ?_
    rotate_left 1
    · (intro wS hSw; go_simp; (try with_reducible rfl))
    try simp only [Act.put]
    refine wpAnyH_take (i := 4) (v := .slice (some ⟨xb, xo, none⟩) 0 0) rfl (by kernel_rfl) (by kernel_rfl) (by kernel_rfl) (fun _ _ _ h => h) (Or.inl ⟨by kernel_rfl, ?_⟩) (by assumption) ?_
    · (intro wS hSw; go_simp; (try simp only []))
    try simp only [Act.put]
    refine wpAnyH_take (i := 5) (v := ?_) rfl (by kernel_rfl) (by kernel_rfl) (by kernel_rfl) (fun _ _ _ h => h) (Or.inl ⟨by kernel_rfl, ?_⟩) (by assumption) ?_
    rotate_left 1
    · (intro wS hSw; have c0 := cell_still c1 hSw; go_simp; (try with_reducible rfl))
    try simp only [Act.put]
    have g1 : w.grownBy w.drew none := hHeld
    generalize hv : w.drew = v at g1 hHeld ⊢
    clear hv
    refine wpAnyH_ready (rs := [6]) (by kernel_rfl) (by simp) ?_
    refine AllReadyH.cons rfl (fun K hK => ?_) AllReadyH.nil
    go_simp
    refine (TG.out v g1).mono ?_
    rintro e w1 ⟨rfl, hg1⟩
    have gn := grown_trans g1 hg1
    refine hK.out _ _ gn (fun hHeld => ?_)
    clear hK K
    try simp only [Act.put]
    refine wpAnyH_take (i := 7) (v := ?_) rfl (by kernel_rfl) (by kernel_rfl) (by kernel_rfl) (fun _ _ _ h => h) (Or.inl ⟨by kernel_rfl, ?_⟩) (by assumption) ?_
    rotate_left 1
    · (intro wS hSw; go_simp; (try with_reducible rfl))
    try simp only [Act.put]
    refine wpAnyH_done (by kernel_rfl) ?_ _
    go_simp
    go_wp2
    go_ret
    exact ⟨by unfold maxL; rw [← HZ.out]; rfl, gn⟩
  · have cx0 : ¬ C = 0 := by omega
    have cx2 : (m : Int) ≤ (C : Int) := by omega
    have cx3 : ¬ (1 + (m : Int) < 1) := by omega
    have TG : Hid (∀ v, w.grownBy v none → Calls Tryz.prog 41 #[.int .i64 z, .slice (some ⟨xb, xo + 1, none⟩) m C, .func (.func 61) #[] #[.pointer (some ⟨p1, 0, none⟩), .pointer (some ⟨p2, 0, none⟩)]] v fun e w' => e = .returned (.int .i64 (xs.tail.foldl g z)) ∧ v.grownBy w' none) := fun v hv => by
      have e := ints_partR (HX.out.more hv) 1 m C (by rw [HM.out]; exact Nat.le_refl _) (Nat.le_refl _) hmC
      rw [List.take_of_length_le (by rw [List.length_drop, HM.out]; omega), List.drop_one] at e
      exact tog_any p1 p2 g z ⟨some ⟨xb, xo + 1, none⟩, m, C⟩ xs.tail v e (H2.out.more hv)
    go_enter Tryz.func43, Tryz.ntmps43
    go_upto_region 1 with fail
    refine wp_region_held_drew (S := fun w' => w.grownBy w' none) (by kernel_rfl) (grown_drew (grown_refl _)) (fun hHeld => ?_)
    refine wpAnyH_take (i := 0) (v := ?_) rfl (by kernel_rfl) (by kernel_rfl) (by kernel_rfl) (fun _ _ _ h => h) (Or.inl ⟨by kernel_rfl, ?_⟩) (by assumption) ?_
    rotate_left 1
    · (intro wS hSw; go_simp; (try with_reducible rfl))
    try simp only [Act.put]
    refine wpAnyH_take (i := 1) (v := ?_) rfl (by kernel_rfl) (by kernel_rfl) (by kernel_rfl) (fun _ _ _ h => h) (Or.inl ⟨by kernel_rfl, ?_⟩) (by assumption) ?_
    rotate_left 1
    · (intro wS hSw; go_simp; (try with_reducible rfl))
    try simp only [Act.put]
    refine wpAnyH_take (i := 2) (v := ?_) rfl (by kernel_rfl) (by kernel_rfl) (by kernel_rfl) (fun _ _ _ h => h) (Or.inl ⟨by kernel_rfl, ?_⟩) (by assumption) ?_
    rotate_left 1
    · (intro wS hSw; have c0 := cell_still q0 hSw; go_simp; (try with_reducible rfl))
    try simp only [Act.put]
    refine wpAnyH_take (i := 3) (v := ?_) rfl (by kernel_rfl) (by kernel_rfl) (by kernel_rfl) (fun _ _ _ h => h) (Or.inl ⟨by kernel_rfl, ?_⟩) (by assumption) ?_
    rotate_left 1
    · (intro wS hSw; go_simp; (try with_reducible rfl))
    try simp only [Act.put]
    refine wpAnyH_take (i := 4) (v := .slice (some ⟨xb, xo + 1, none⟩) m C) rfl (by kernel_rfl) (by kernel_rfl) (by kernel_rfl) (fun _ _ _ h => h) (Or.inl ⟨by kernel_rfl, ?_⟩) (by assumption) ?_
    · (intro wS hSw; go_simp; (try simp only []))
    try simp only [Act.put]
    refine wpAnyH_take (i := 5) (v := ?_) rfl (by kernel_rfl) (by kernel_rfl) (by kernel_rfl) (fun _ _ _ h => h) (Or.inl ⟨by kernel_rfl, ?_⟩) (by assumption) ?_
    rotate_left 1
    · (intro wS hSw; have c0 := cell_still c1 hSw; go_simp; (try with_reducible rfl))
    try simp only [Act.put]
    have g1 : w.grownBy w.drew none := hHeld
    generalize hv : w.drew = v at g1 hHeld ⊢
    clear hv
    refine wpAnyH_ready (rs := [6]) (by kernel_rfl) (by simp) ?_
    refine AllReadyH.cons rfl (fun K hK => ?_) AllReadyH.nil
    go_simp
    refine (TG.out v g1).mono ?_
    rintro e w1 ⟨rfl, hg1⟩
    have gn := grown_trans g1 hg1
    refine hK.out _ _ gn (fun hHeld => ?_)
    clear hK K
    try simp only [Act.put]
    refine wpAnyH_take (i := 7) (v := ?_) rfl (by kernel_rfl) (by kernel_rfl) (by kernel_rfl) (fun _ _ _ h => h) (Or.inl ⟨by kernel_rfl, ?_⟩) (by assumption) ?_
    rotate_left 1
    · (intro wS hSw; go_simp; (try with_reducible rfl))
    try simp only [Act.put]
    refine wpAnyH_done (by kernel_rfl) ?_ _
    go_simp
    go_wp2
    go_ret
    exact ⟨by unfold maxL; rw [← HZ.out]; rfl, gn⟩

end Go.Proofs.YtahmmilhmoogbaaGreatDoor

namespace Go.Proofs.YtahmmilhmoogbaaGreatDoor

open Go.RowKit

def flo (x : Int) : Int := Nu.tob (floatOfInt .f32 x)

def meanL (xs : List Int) : Int := (Nu.bin 3 1 (xs.foldl (fun x y => (Nu.bin 0 1 x y).1) 0) (flo xs.length)).1

end Go.Proofs.YtahmmilhmoogbaaGreatDoor

namespace Go.Proofs.YtahmmilhmoogbaaGreatDoor

open Go.RowKit

def argS (g : Int → Int → Int) (s : Int × Int × Int) (x : Int) : Int × Int × Int := (s.1 + 1, if g x s.2.2 = 1 then (s.1 + 1, x) else s.2)

def argL (g : Int → Int → Int) (xs : List Int) : Int := (xs.tail.foldl (argS g) (0, 0, xs.getD 0 0)).2.1

theorem argS_fst (g : Int → Int → Int) : ∀ (xs : List Int) (s : Int × Int × Int), (xs.foldl (argS g) s).1 = s.1 + xs.length
  | [], s => by simp
  | x :: xs, s => by
    rw [List.foldl_cons, argS_fst g xs]
    simp only [argS, List.length_cons]
    omega

theorem two_cells {w : World} {B : Nat} {a0 a1 : Value} {t : TypeId} (hb : w.heap[B]? = some (.cells #[a0, a1] t (0, 0))) : w.cell? ⟨B, 0, none⟩ = some a0 ∧ w.cell? ⟨B, 1, none⟩ = some a1 ∧ w.frozen? ⟨B, 0, none⟩ = false ∧ w.frozen? ⟨B, 1, none⟩ = false := by
  exact ⟨(cell_of_row _ _ 0 _ _ (0, 0) hb).trans rfl, (cell_of_row _ _ 1 _ _ (0, 0) hb).trans rfl, frozen_of_row w B 0 _ _ hb, frozen_of_row w B 1 _ _ hb⟩

theorem one_frozenR {w : World} {B : Nat} {a0 : Value} {t : TypeId} (hb : w.heap[B]? = some (.cells #[a0] t (0, 0))) : w.frozen? ⟨B, 0, none⟩ = false := by
  exact frozen_of_row w B 0 _ _ hb

theorem grown_pastR {a b c : World} {B : Nat} {r : Option Nat} (h : a.grownBy b r) (k : b.grownBy c (some B)) (hB : a.heap.size ≤ B) : a.grownBy c r :=
  ⟨k.1.trans h.1, k.2.trans h.2, k.3.trans h.3, Nat.le_trans h.4 k.4, fun i hi hr => (k.5 i (Nat.lt_of_lt_of_le hi h.4) (fun e => by cases e; omega)).trans (h.5 i hi hr)⟩

theorem grown_afterR {a b c : World} {r : Option Nat} (h : a.grownBy b r) (k : b.grownBy c none) : a.grownBy c r :=
  ⟨k.1.trans h.1, k.2.trans h.2, k.3.trans h.3, Nat.le_trans h.4 k.4, fun i hi hr => (k.5 i (Nat.lt_of_lt_of_le hi h.4) (by simp)).trans (h.5 i hi hr)⟩

theorem set_grownR (x : World) (B j : Nat) (v : Value) : x.grownBy (x.setCell ⟨B, j, none⟩ v) (some B) :=
  ⟨rfl, rfl, rfl, by simp [World.setCell], fun k _ hk => Below.heap_setCell _ _ _ _ (fun e => hk (by rw [e]))⟩

theorem bestInfo : (Tryz.prog.info? 82).map (·.size) = some 2 := by kernel_rfl

theorem ret_best {fn : Func} {p : Tmp} (h : fn.results = #[.cell p 82]) (tmps : Array Value) (w : World) (B : Nat) (hp : tmps.getD p undef = .pointer (some ⟨B, 0, none⟩)) {a0 a1 : Value}
    (hb : w.heap[B]? = some (.cells #[a0, a1] 82 (0, 0))) : (results fn tmps).run Tryz.prog w = .ok (.agg #[a0, a1]) w :=
  results_cell_row h tmps w B 82 #[a0, a1] (0, 0) _ hp hb Tryz.underlying82 rfl (by rw [bestInfo]; rfl)

theorem store2t {w3 : World} {B : Nat} {z0 z1 : Value} {t : TypeId} (a b : Value) (hb : w3.heap[B]? = some (.cells #[z0, z1] t (0, 0))) :
    ((w3.setCell ⟨B, 0, none⟩ a).setCell ⟨B, 1, none⟩ b).heap[B]? = some (.cells #[a, b] t (0, 0)) ∧ w3.grownBy ((w3.setCell ⟨B, 0, none⟩ a).setCell ⟨B, 1, none⟩ b) (some B) := by
  have h1 := heap_setCell_same w3 B 0 _ _ a hb
  have h2 := heap_setCell_same _ B 1 _ _ b h1
  exact ⟨by simpa using h2, grown_same (set_grownR w3 B 0 a) (set_grownR _ B 1 b)⟩

theorem grown_anyR {a b : World} {B : Nat} (h : a.grownBy b none) : a.grownBy b (some B) := ⟨h.1, h.2, h.3, h.4, fun i hi _ => h.5 i hi (by simp)⟩

set_option maxRecDepth 100000 in
set_option maxHeartbeats 2000000 in
theorem fg1_any (g : Int → Int → Int) (pb b : Nat) (k bp be x : Int) (w0 w : World) (hg : w0.grownBy w none) (hpb : w0.heap.size ≤ pb) (hk : 0 ≤ k ∧ k ≤ 1000000) (hbx : w.heap[pb]? = some (.cells #[.int .i64 k] 2 (0, 0))) (hb : OneB g w0 b) : Calls Tryz.prog 46 #[.agg #[.int .i64 bp, .int .i64 be], .int .i64 x, .pointer (some ⟨pb, 0, none⟩), .pointer (some ⟨b, 0, none⟩)] w fun e w' => e = .returned (.agg #[.int .i64 (argS g (k, bp, be) x).2.1, .int .i64 (argS g (k, bp, be) x).2.2]) ∧ w'.heap[pb]? = some (.cells #[.int .i64 (k + 1)] 2 (0, 0)) ∧ w.grownBy w' (some pb) := by
  obtain ⟨w1, hw1⟩ : ∃ w1, w1 = (w.alloc (.cells #[.int .i64 bp, .int .i64 be] 82)).alloc (.cells #[.int .i64 0, .int .i64 0] 82) := ⟨_, rfl⟩
  have hbs := two_boxes w (.cells #[.int .i64 bp, .int .i64 be] 82) (.cells #[.int .i64 0, .int .i64 0] 82)
  rw [← hw1] at hbs
  have g1 : w.grownBy w1 none := by rw [hw1]; exact grown_trans (grown_new _ _) (grown_new _ _)
  have k1 := one_cell (box_kept hbx g1)
  have k2 := one_frozenR (box_kept hbx g1)
  have hps : pb < w.heap.size := (Array.getElem?_eq_some_iff.1 hbx).1
  obtain ⟨w2, hw2⟩ : ∃ w2, w2 = w1.setCell ⟨pb, 0, none⟩ (.int .i64 (k + 1)) := ⟨_, rfl⟩
  have B2 := heap_setCell_same w1 pb 0 _ _ (.int .i64 (k + 1)) (box_kept hbx g1)
  have g2 := set_grownR w1 pb 0 (.int .i64 (k + 1))
  rw [← hw2] at B2 g2
  have gw2 := grown_drop (grown_trans hg g1) g2 hpb
  have b1 := (g2.block w.heap.size (by rw [hw1]; simp; omega) (by simp only [ne_eq, Option.some.injEq]; omega)).trans hbs.1
  have b2 := (g2.block (w.heap.size + 1) (by rw [hw1]; simp) (by simp only [ne_eq, Option.some.injEq]; omega)).trans hbs.2
  have hw : IntKind.i64.wrap (k + 1) = k + 1 := by rw [wrap_i64_eq]; unfold wrap64; omega
  obtain ⟨p1, p2, h1, h2⟩ := hb
  have c1 := one_cell (box_kept h1 gw2)
  unfold stepV at c1
  obtain ⟨d0, d1, -, -⟩ := two_cells b1
  have SC := hide (h2 x be w2 gw2)
  have GW := hide (grown_same (grown_anyR g1) g2)
  have B2' : Hid (w2.heap[pb]? = some (.cells #[.int .i64 (k + 1)] 2 (0, 0))) := by show _ = _; simpa using B2
  have B1' := hide b1
  have b2' := hide b2
  have HPS := hide hps
  rw [hw1] at k1 k2
  obtain ⟨y, hy⟩ : ∃ y, y = g x be := ⟨_, rfl⟩
  rw [← hy] at SC
  have HY : Hid ((argS g (k, bp, be) x).2 = if y = 1 then (k + 1, x) else (bp, be)) := by show _ = _; rw [hy]; rfl
  have PBS : Hid (∀ w3 w4 : World, w2.grownBy w3 none → w3.grownBy w4 (some (w.heap.size + 1)) → w4.heap[pb]? = some (.cells #[.int .i64 (k + 1)] 2 (0, 0)) ∧ w.grownBy w4 (some pb)) := fun w3 w4 h3 h4 => by
    have e := box_kept B2'.out h3
    have hp := HPS.out
    exact ⟨(h4.block pb (Array.getElem?_eq_some_iff.1 e).1 (by simp only [ne_eq, Option.some.injEq]; omega)).trans e, grown_pastR (grown_afterR GW.out h3) h4 (by omega)⟩
  clear hg hpb hbx h1 h2 hbs g1 B2 g2 gw2 b1 b2 hps hy
  go_enter Tryz.func46, Tryz.ntmps46
  go_upto_region 2 with fail
  rw [← hw1, ← hw2]
  clear hw1 hw2 k1 k2
  by_cases h1 : y = 1
  · subst h1
    rw [if_pos rfl] at HY
    go_wp2_with (first | (go_at_call 61; refine SC.out.mono ?_; rintro e w3 ⟨rfl, hg3⟩; have m1 := one_cell (box_kept B2'.out hg3); have k3 := box_kept b2'.out hg3; obtain ⟨q0, q1, q2, q3⟩ := two_cells k3; obtain ⟨st, sg⟩ := store2t (.int .i64 (k + 1)) (.int .i64 x) k3; have HST := hide st; have PB := hide (PBS.out w3 _ hg3 sg); clear hg3 k3 st sg) | fail)
    refine bodyPost_ret (ret_best rfl _ _ (w.heap.size + 1) rfl HST.out) rfl ?_
    rw [HY.out]
    exact ⟨rfl, PB.out⟩
  · rw [if_neg h1] at HY
    go_wp2_with (first | (go_at_call 61; refine SC.out.mono ?_; rintro e w3 ⟨rfl, hg3⟩; obtain ⟨d0, d1, -, -⟩ := two_cells (box_kept B1'.out hg3); have k3 := box_kept b2'.out hg3; obtain ⟨q0, q1, q2, q3⟩ := two_cells k3; obtain ⟨st, sg⟩ := store2t (.int .i64 bp) (.int .i64 be) k3; have HST := hide st; have PB := hide (PBS.out w3 _ hg3 sg); clear hg3 k3 st sg) | fail)
    refine bodyPost_ret (ret_best rfl _ _ (w.heap.size + 1) rfl HST.out) rfl ?_
    rw [HY.out]
    exact ⟨rfl, PB.out⟩

end Go.Proofs.YtahmmilhmoogbaaGreatDoor

namespace Go.Proofs.YtahmmilhmoogbaaGreatDoor

open Go.RowKit

set_option maxRecDepth 100000 in
set_option maxHeartbeats 4000000 in
theorem togb_any (g : Int → Int → Int) (pb b : Nat) (e0 : Int) (u : Sl) (xs : List Int) (w0 w : World) (hg : w0.grownBy w none) (hpb : w0.heap.size ≤ pb) (hbx : w.heap[pb]? = some (.cells #[.int .i64 0] 2 (0, 0))) (hx : IsInts w0 u.v xs) (hl : xs.length ≤ 65536) (hb : OneB g w0 b) : Calls Tryz.prog 45 #[.agg #[.int .i64 0, .int .i64 e0], .slice u.a u.n u.c, .func (.func 46) #[] #[.pointer (some ⟨pb, 0, none⟩), .pointer (some ⟨b, 0, none⟩)]] w fun e w' => e = .returned (.agg #[.int .i64 (xs.foldl (argS g) (0, 0, e0)).2.1, .int .i64 (xs.foldl (argS g) (0, 0, e0)).2.2]) ∧ w.grownBy w' (some pb) := by
  obtain ⟨ua, un, uc⟩ := u
  obtain ⟨_, _, eu, d1, d2, d3⟩ := hx.sl
  simp only [Sl.v, Value.slice.injEq] at eu
  obtain ⟨rfl, rfl, rfl⟩ := eu
  have HX := hide hx
  have HB := hide hb
  have HPB := hide hpb
  obtain ⟨w1, hw1⟩ : ∃ w1, w1 = (w.alloc (.cells #[.int .i64 0, .int .i64 e0] 82)).alloc (.cells #[.int .i64 0, .int .i64 0] 82) := ⟨_, rfl⟩
  have hbs := two_boxes w (.cells #[.int .i64 0, .int .i64 e0] 82) (.cells #[.int .i64 0, .int .i64 0] 82)
  rw [← hw1] at hbs
  have g1 : w.grownBy w1 none := by rw [hw1]; exact grown_trans (grown_new _ _) (grown_new _ _)
  have hps : Hid (pb < w.heap.size) := (Array.getElem?_eq_some_iff.1 hbx).1
  have Z1 := hide hbs.1
  have Z2 := hide hbs.2
  have Z3 := hide (box_kept hbx g1)
  have G0 := hide hg
  have G1 : Hid (w.grownBy w1 (some pb)) := grown_anyR g1
  clear hx hb hpb hbx hg hbs g1
  go_enter Tryz.func45, Tryz.ntmps45
  go_wp2
  rw [← hw1]
  clear hw1
  go_loopw [11] (fun i wr => w.grownBy wr (some pb) ∧ ∃ k : Nat, k ≤ xs.length ∧ i = .int .i64 k ∧ wr.heap[w.heap.size]? = some (.cells #[.int .i64 ((xs.take k).foldl (argS g) (0, 0, e0)).2.1, .int .i64 ((xs.take k).foldl (argS g) (0, 0, e0)).2.2] 82 (0, 0)) ∧ wr.heap[w.heap.size + 1]? = some (.cells #[.int .i64 0, .int .i64 0] 82 (0, 0)) ∧ wr.heap[pb]? = some (.cells #[.int .i64 (k : Int)] 2 (0, 0))) (fun i _ => xs.length - (intOf i).toNat)
  case atStart => exact ⟨G1.out, 0, Nat.zero_le _, rfl, Z1.out, Z2.out, Z3.out⟩
  case round =>
    obtain ⟨hgp, k, hk, rfl, hz1, hz2, hz3⟩ := hrel
    have HGP := hide hgp
    have hg := grown_drop G0.out hgp HPB.out
    have HG := hide hg
    by_cases hlt : k < xs.length
    · obtain ⟨b', off, rfl, hc⟩ := HX.out.get hlt
      have hcell := cell_still (hc k hlt) hg
      have ST : (xs.take (k + 1)).foldl (argS g) (0, 0, e0) = argS g ((xs.take k).foldl (argS g) (0, 0, e0)) (xs.getD k 0) := by rw [take_step xs k hlt, List.foldl_append]; rfl
      have SF := argS_fst g (xs.take k) (0, 0, e0)
      rw [List.length_take, Nat.min_eq_left (by omega)] at SF
      obtain ⟨y, hy⟩ : ∃ y, y = xs.getD k 0 := ⟨_, rfl⟩
      obtain ⟨⟨s0, s1, s2⟩, hs⟩ : ∃ s, s = (xs.take k).foldl (argS g) (0, 0, e0) := ⟨_, rfl⟩
      rw [← hy] at hcell ST
      rw [← hs] at ST SF hz1
      simp only at SF hz1
      have sf : s0 = (k : Int) := by omega
      rw [sf] at ST
      have HST := hide ST
      have FG := hide (fg1_any g pb b (k : Int) s1 s2 y w0 wr hg HPB.out (by omega) hz3 HB.out)
      obtain ⟨c0, c1, -, -⟩ := two_cells hz1
      have K1 := hide hz1
      have K2 := hide hz2
      obtain ⟨t, ht⟩ : ∃ t, t = argS g ((k : Int), s1, s2) y := ⟨_, rfl⟩
      rw [← ht] at FG HST
      obtain ⟨t0, t1, t2⟩ := t
      simp only at FG
      have l1 : (k : Int) < (xs.length : Int) := by omega
      clear hg hgp hc hy hs ht ST SF sf hz1 hz2 hz3
      go_wp2_with (first | (go_at_call 46; refine FG.out.mono ?_; rintro e w2 ⟨rfl, hb2, hg2⟩; have hp := hps.out; have q := (hg2.block w.heap.size (Array.getElem?_eq_some_iff.1 K1.out).1 (by simp only [ne_eq, Option.some.injEq]; omega)).trans K1.out; have qq := (hg2.block (w.heap.size + 1) (Array.getElem?_eq_some_iff.1 K2.out).1 (by simp only [ne_eq, Option.some.injEq]; omega)).trans K2.out; obtain ⟨c0, c1, f0, f1⟩ := two_cells q; obtain ⟨st, sg⟩ := store2t (.int .i64 t1) (.int .i64 t2) q; have R1 := hide st; have R2 := hide ((sg.block (w.heap.size + 1) (Array.getElem?_eq_some_iff.1 qq).1 (by simp)).trans qq); have R3 := hide ((sg.block pb (Array.getElem?_eq_some_iff.1 hb2).1 (by simp only [ne_eq, Option.some.injEq]; omega)).trans hb2); have RG := hide (grown_pastR (grown_same HGP.out hg2) sg (Nat.le_refl _)); clear hb2 hg2 hp q qq st sg) | fail)
      go_roundw
      case rel => exact ⟨RG.out, k + 1, by omega, by go_num, by rw [HST.out]; exact R1.out, R2.out, by rw [Int.natCast_add]; exact R3.out⟩
      case measure => simp [intOf]; omega
    · have hke : k = xs.length := by omega
      subst hke
      rw [List.take_length] at hz1
      obtain ⟨c0, c1, -, -⟩ := two_cells hz1
      obtain ⟨e0', e1', f0, f1⟩ := two_cells hz2
      obtain ⟨st, sg⟩ := store2t (.int .i64 (xs.foldl (argS g) (0, 0, e0)).2.1) (.int .i64 (xs.foldl (argS g) (0, 0, e0)).2.2) hz2
      have R1 := hide st
      have RG := hide (grown_pastR hgp sg (by omega))
      clear hg hgp hz1 hz2 hz3 st sg
      go_wp2
      refine bodyPost_ret (ret_best rfl _ _ (w.heap.size + 1) rfl R1.out) rfl ?_
      exact ⟨rfl, RG.out⟩

end Go.Proofs.YtahmmilhmoogbaaGreatDoor
