/- Joined texts: RdStep, RdMax, RdMean, RdArg, RdEach, RdRun. -/
import Derived.Test.YtahmmilhmoogbaaGreatDoorPartBE
import Derived.Test.YtahmmilhmoogbaaGreatDoorPartAX
import Derived.Test.YtahmmilhmoogbaaGreatDoorPartAY
import Derived.Laws.EntriesVeiled
import Derived.Deep.RegionHeld3
namespace Go.Proofs.YtahmmilhmoogbaaGreatDoor

open Go.RowKit

def StepT (op : ByteArray) (ty : Int) (w : World) (p1 p2 : Nat) : Prop := w.heap[p1]? = some (.cells #[.string op] 9 (0, 0)) ∧ w.heap[p2]? = some (.cells #[.int .i64 ty] 3 (0, 0))

theorem StepT.more {op : ByteArray} {ty : Int} {w w' : World} {p1 p2 : Nat} (h : StepT op ty w p1 p2) (hg : w.grownBy w' none) : StepT op ty w' p1 p2 := ⟨box_kept h.1 hg, box_kept h.2 hg⟩

def stepV (p1 p2 : Nat) : Value := .func (.func 61) #[] #[.pointer (some ⟨p1, 0, none⟩), .pointer (some ⟨p2, 0, none⟩)]

def StepQ (g : Int → Int → Int) (w : World) (p1 p2 : Nat) : Prop := ∀ (x y : Int) (wx : World), w.grownBy wx none → Calls Tryz.prog 61 #[.int .i64 x, .int .i64 y, .pointer (some ⟨p1, 0, none⟩), .pointer (some ⟨p2, 0, none⟩)] wx fun e w' => e = .returned (.int .i64 (g x y)) ∧ wx.grownBy w' none

theorem StepQ.more {g : Int → Int → Int} {w w' : World} {p1 p2 : Nat} (h : StepQ g w p1 p2) (hg : w.grownBy w' none) : StepQ g w' p1 p2 := fun x y wx hx => h x y wx (grown_trans hg hx)

set_option maxRecDepth 100000 in
set_option maxHeartbeats 1000000 in
theorem step_Add {ty : Int} {p1 p2 : Nat} {w : World} (h : StepT ⟨#[65, 100, 100]⟩ ty w p1 p2) : StepQ (fun x y => (Nu.bin 0 ty x y).1) w p1 p2 := fun x y wx hx => by
  have c1 := one_cell (h.more hx).1
  have c2 := one_cell (h.more hx).2
  have BB := hide (fun (wx : World) => Nu.binary0 ty x y wx)
  clear h
  go_enter Tryz.func61, Tryz.ntmps61
  go_wp2_with (first | (go_at_call 62; refine (BB.out _).mono ?_; rintro e w' ⟨rfl, q, rfl⟩) | fail)
  go_ret
  exact ⟨rfl, ⟨rfl, rfl, rfl, Nat.le_refl _, fun k hk hn => rfl⟩⟩

set_option maxRecDepth 100000 in
set_option maxHeartbeats 1000000 in
theorem step_Sub {ty : Int} {p1 p2 : Nat} {w : World} (h : StepT ⟨#[83, 117, 98]⟩ ty w p1 p2) : StepQ (fun x y => (Nu.bin 1 ty x y).1) w p1 p2 := fun x y wx hx => by
  have c1 := one_cell (h.more hx).1
  have c2 := one_cell (h.more hx).2
  have BB := hide (fun (wx : World) => Nu.binary1 ty x y wx)
  clear h
  go_enter Tryz.func61, Tryz.ntmps61
  go_wp2_with (first | (go_at_call 62; refine (BB.out _).mono ?_; rintro e w' ⟨rfl, q, rfl⟩) | fail)
  go_ret
  exact ⟨rfl, ⟨rfl, rfl, rfl, Nat.le_refl _, fun k hk hn => rfl⟩⟩

set_option maxRecDepth 100000 in
set_option maxHeartbeats 1000000 in
theorem step_Div {ty : Int} {p1 p2 : Nat} {w : World} (h : StepT ⟨#[68, 105, 118]⟩ ty w p1 p2) : StepQ (fun x y => (Nu.bin 3 ty x y).1) w p1 p2 := fun x y wx hx => by
  have c1 := one_cell (h.more hx).1
  have c2 := one_cell (h.more hx).2
  have BB := hide (fun (wx : World) => Nu.binary3 ty x y wx)
  clear h
  go_enter Tryz.func61, Tryz.ntmps61
  go_wp2_with (first | (go_at_call 62; refine (BB.out _).mono ?_; rintro e w' ⟨rfl, q, rfl⟩) | fail)
  go_ret
  exact ⟨rfl, ⟨rfl, rfl, rfl, Nat.le_refl _, fun k hk hn => rfl⟩⟩

set_option maxRecDepth 100000 in
set_option maxHeartbeats 1000000 in
theorem step_Max {ty : Int} {p1 p2 : Nat} {w : World} (h : StepT ⟨#[77, 97, 120]⟩ ty w p1 p2) : StepQ (fun x y => (Nu.bin 4 ty x y).1) w p1 p2 := fun x y wx hx => by
  have c1 := one_cell (h.more hx).1
  have c2 := one_cell (h.more hx).2
  have BB := hide (fun (wx : World) => Nu.binary4 ty x y wx)
  clear h
  go_enter Tryz.func61, Tryz.ntmps61
  go_wp2_with (first | (go_at_call 62; refine (BB.out _).mono ?_; rintro e w' ⟨rfl, q, rfl⟩) | fail)
  go_ret
  exact ⟨rfl, ⟨rfl, rfl, rfl, Nat.le_refl _, fun k hk hn => rfl⟩⟩

set_option maxRecDepth 100000 in
set_option maxHeartbeats 2000000 in
theorem tog_any (p1 p2 : Nat) (g : Int → Int → Int) (z : Int) (u : Sl) (xs : List Int) (w : World) (hx : IsInts w u.v xs) (B : StepQ g w p1 p2) : Calls Tryz.prog 41 #[.int .i64 z, .slice u.a u.n u.c, stepV p1 p2] w fun e w' => e = .returned (.int .i64 (xs.foldl g z)) ∧ w.grownBy w' none := by
  obtain ⟨ua, un, uc⟩ := u
  obtain ⟨_, _, eu, c1, c2, c3⟩ := hx.sl
  simp only [Sl.v, Value.slice.injEq] at eu
  obtain ⟨rfl, rfl, rfl⟩ := eu
  have HX := hide hx
  have HB := hide B
  clear hx B
  unfold stepV
  go_enter Tryz.func41, Tryz.ntmps41
  go_wp2
  go_loopw [0, 11] (fun a i wr => w.grownBy wr none ∧ ∃ k : Nat, k ≤ xs.length ∧ i = .int .i64 k ∧ a = .int .i64 ((xs.take k).foldl g z)) (fun _ i _ => xs.length - (intOf i).toNat)
  case atStart => exact ⟨grown_refl _, 0, Nat.zero_le _, rfl, rfl⟩
  case round =>
    obtain ⟨hg, k, hk, rfl, rfl⟩ := hrel
    have HG := hide hg
    by_cases hlt : k < xs.length
    · obtain ⟨b, off, rfl, hc⟩ := HX.out.get hlt
      have hcell := cell_still (hc k hlt) hg
      have ST : Hid ((xs.take (k + 1)).foldl g z = g ((xs.take k).foldl g z) (xs.getD k 0)) := by show _ = _; rw [take_step xs k hlt, List.foldl_append]; rfl
      obtain ⟨y, hy⟩ : ∃ y, y = xs.getD k 0 := ⟨_, rfl⟩
      obtain ⟨a, ha⟩ : ∃ a, a = (xs.take k).foldl g z := ⟨_, rfl⟩
      rw [← hy] at hcell ST
      rw [← ha] at ST ⊢
      have CB := hide (HB.out a y wr hg)
      have l1 : (k : Int) < (xs.length : Int) := by omega
      clear hg hc hy ha
      go_wp2_with (first | (go_at_call 61; refine CB.out.mono ?_; rintro e w1 ⟨rfl, hg1⟩) | fail)
      have HG1 := hide (grown_trans HG.out hg1)
      clear hg1
      go_roundw
      case rel => exact ⟨HG1.out, k + 1, by omega, by go_num, by rw [ST.out]⟩
      case measure => simp [intOf]; omega
    · have hke : k = xs.length := by omega
      subst hke
      rw [List.take_length]
      clear hg
      go_wp2
      go_ret
      exact ⟨rfl, HG.out⟩

def OneB (g : Int → Int → Int) (w : World) (b : Nat) : Prop := ∃ p1 p2 : Nat, w.heap[b]? = some (.cells #[stepV p1 p2] 69 (0, 0)) ∧ StepQ g w p1 p2

theorem OneB.more {g : Int → Int → Int} {w w' : World} {b : Nat} (h : OneB g w b) (hg : w.grownBy w' none) : OneB g w' b := by
  obtain ⟨p1, p2, h1, h2⟩ := h
  exact ⟨p1, p2, box_kept h1 hg, h2.more hg⟩

set_option maxRecDepth 100000 in
set_option maxHeartbeats 1000000 in
theorem sum_any (ty : Int) (w : World) : Calls Tryz.prog 23 #[.int .i64 ty] w fun e w' => ∃ b : Nat, e = .returned (.func (.func 40) #[] #[.pointer (some ⟨b, 0, none⟩)]) ∧ OneB (fun x y => (Nu.bin 0 ty x y).1) w' b ∧ w.grownBy w' none := by
  have hmf : ∀ (fn : Fn) (first cap : Array Value) (w : World), (Instr.makeFunc fn first cap).run Tryz.prog w = .ok (.func fn first cap) w := fun _ _ _ _ => rfl
  have S2 := hide (stwo_any ⟨#[65, 100, 100]⟩ ty w)
  go_enter Tryz.func23, Tryz.ntmps23
  go_wp2_with (first | (go_at_call 39; refine S2.out.mono ?_; rintro e w1 ⟨rfl, hg1, hb1, hb2⟩) | fail)
  go_ret
  have g2 := grown_new w1 (.cells #[stepV w.heap.size (w.heap.size + 1)] 69)
  exact ⟨_, rfl, ⟨w.heap.size, w.heap.size + 1, heap_alloc_new _ _, step_Add ⟨box_kept hb1 g2, box_kept hb2 g2⟩⟩, grown_trans hg1 g2⟩

set_option maxRecDepth 100000 in
set_option maxHeartbeats 1000000 in
theorem greatest_any (ty : Int) (w : World) : Calls Tryz.prog 25 #[.int .i64 ty] w fun e w' => ∃ b : Nat, e = .returned (.func (.func 43) #[] #[.pointer (some ⟨b, 0, none⟩)]) ∧ OneB (fun x y => (Nu.bin 4 ty x y).1) w' b ∧ w.grownBy w' none := by
  have hmf : ∀ (fn : Fn) (first cap : Array Value) (w : World), (Instr.makeFunc fn first cap).run Tryz.prog w = .ok (.func fn first cap) w := fun _ _ _ _ => rfl
  have S2 := hide (stwo_any ⟨#[77, 97, 120]⟩ ty w)
  go_enter Tryz.func25, Tryz.ntmps25
  go_wp2_with (first | (go_at_call 39; refine S2.out.mono ?_; rintro e w1 ⟨rfl, hg1, hb1, hb2⟩) | fail)
  go_ret
  have g2 := grown_new w1 (.cells #[stepV w.heap.size (w.heap.size + 1)] 69)
  exact ⟨_, rfl, ⟨w.heap.size, w.heap.size + 1, heap_alloc_new _ _, step_Max ⟨box_kept hb1 g2, box_kept hb2 g2⟩⟩, grown_trans hg1 g2⟩

set_option maxRecDepth 100000 in
set_option maxHeartbeats 1000000 in
theorem sum1_any (g : Int → Int → Int) (b : Nat) (u : Sl) (xs : List Int) (w : World) (hx : IsInts w u.v xs) (hb : OneB g w b) : Calls Tryz.prog 40 #[.slice u.a u.n u.c, .pointer (some ⟨b, 0, none⟩)] w fun e w' => e = .returned (.int .i64 (xs.foldl g 0)) ∧ w.grownBy w' none := by
  obtain ⟨p1, p2, h1, h2⟩ := hb
  have c1 := one_cell h1
  have TG := hide (tog_any p1 p2 g 0 u xs w hx h2)
  obtain ⟨ua, un, uc⟩ := u
  unfold stepV at TG c1
  simp only at TG ⊢
  clear hx h1 h2
  go_enter Tryz.func40, Tryz.ntmps40
  go_wp2_with (first | (go_at_call 41; refine TG.out.mono ?_; rintro e w1 ⟨rfl, hg1⟩) | fail)
  go_ret
  exact ⟨rfl, hg1⟩

end Go.Proofs.YtahmmilhmoogbaaGreatDoor

namespace Go.Proofs.YtahmmilhmoogbaaGreatDoor

open Go.RowKit

theorem ints_partR {w : World} {b off n c : Nat} {zs : List Int} (h : IsInts w (.slice (some ⟨b, off, none⟩) n c) zs) (p m c' : Nat) (hp : p + m ≤ zs.length) (hc : p + c' ≤ c) (hm : m ≤ c') : IsInts w (.slice (some ⟨b, off + p, none⟩) m c') ((zs.drop p).take m) := by
  obtain ⟨a, c0, e, h1, h2, h3, -, h5, h6⟩ := h
  simp only [Value.slice.injEq] at e
  obtain ⟨rfl, -, rfl⟩ := e
  have hl : ((zs.drop p).take m).length = m := by rw [List.length_take, List.length_drop]; omega
  refine ⟨_, _, by rw [hl], by rw [hl]; exact hm, by omega, by rw [hl]; omega, (fun h => by cases h), fun _ => ⟨b, off + p, rfl, fun t ht => ?_⟩, fun z hz => h6 z (List.mem_of_mem_drop (List.mem_of_mem_take hz))⟩
  rw [hl] at ht
  obtain ⟨b', off', e', hcell⟩ := h5 (by omega)
  simp only [Option.some.injEq, Addr.mk.injEq] at e'
  obtain ⟨rfl, rfl, -⟩ := e'
  rw [Nat.add_assoc, hcell (p + t) (by omega)]
  congr 2
  simp only [List.getD]
  rw [List.getElem?_take_of_lt ht, List.getElem?_drop]

def maxL (g : Int → Int → Int) (xs : List Int) : Int := xs.tail.foldl g (xs.getD 0 0)

set_option maxRecDepth 100000 in
set_option maxHeartbeats 2000000 in
theorem greatest1_any (g : Int → Int → Int) (b : Nat) (u : Sl) (xs : List Int) (w : World) (hx : IsInts w u.v xs) (h0 : 0 < xs.length) (hb : OneB g w b) : Calls Tryz.prog 43 #[.slice u.a u.n u.c, .pointer (some ⟨b, 0, none⟩)] w fun e w' => e = .returned (.int .i64 (maxL g xs)) ∧ w.grownBy w' none := by
  obtain ⟨p1, p2, h1, h2⟩ := hb
  have c1 := one_cell h1
  obtain ⟨ua, un, uc⟩ := u
  obtain ⟨_, _, eu, d1, d2, d3⟩ := hx.sl
  simp only [Sl.v, Value.slice.injEq] at eu
  obtain ⟨rfl, rfl, rfl⟩ := eu
  obtain ⟨xb, xo, rfl, hc⟩ := hx.get h0
  have q0 := hc 0 h0
  rw [Nat.add_zero] at q0
  obtain ⟨C, hC⟩ : ∃ C, uc = 1 + C := ⟨uc - 1, by omega⟩
  obtain ⟨m, hm⟩ : ∃ m, xs.length = 1 + m := ⟨xs.length - 1, by omega⟩
  subst hC
  simp only [Sl.v] at hx
  rw [hm] at hx h0 d1 ⊢
  have hmC : m ≤ C := by omega
  have i1 : (0 : Int) < 1 + (m : Int) := by omega
  have HX := hide hx
  have H2 := hide h2
  obtain ⟨z, hz⟩ : ∃ z, z = xs.getD 0 0 := ⟨_, rfl⟩
  rw [← hz] at q0
  have HZ := hide hz
  have HM := hide hm
  unfold stepV at c1
  clear hx h1 h2 hc hz hm
  rcases Nat.eq_zero_or_pos C with hC0 | hC0
  · subst hC0
    obtain rfl : m = 0 := by omega
    have ED : xs.tail = [] := by rw [← List.drop_one]; exact List.drop_of_length_le (by rw [HM.out]; omega)
    have TG : Hid (∀ v, w.grownBy v none → Calls Tryz.prog 41 #[.int .i64 z, .slice (some ⟨xb, xo, none⟩) 0 0, .func (.func 61) #[] #[.pointer (some ⟨p1, 0, none⟩), .pointer (some ⟨p2, 0, none⟩)]] v fun e w' => e = .returned (.int .i64 (xs.tail.foldl g z)) ∧ v.grownBy w' none) := fun v hv => tog_any p1 p2 g z ⟨some ⟨xb, xo, none⟩, 0, 0⟩ xs.tail v (by rw [ED]; exact ⟨some ⟨xb, xo, none⟩, 0, rfl, Nat.le_refl _, Nat.zero_le _, by simp, fun h => by (first | exact ⟨rfl, rfl⟩ | cases h), fun h => by simp at h, fun z hz => by simp at hz⟩) (H2.out.more hv)
    clear ED
    go_enter Tryz.func43, Tryz.ntmps43
    go_upto_region 1 with fail
    refine wp_region_held_drew (S := fun w' => w.grownBy w' none) (by kernel_rfl) (grown_drew (grown_refl _)) (fun hHeld => ?_)
    refine wpAnyH_take (i := 0) (v := ?_) rfl (by kernel_rfl) (by kernel_rfl) (by kernel_rfl) (fun _ _ _ h => h) (Or.inl ⟨by kernel_rfl, ?_⟩) (by assumption) ?_
    rotate_left 1
    · (intro wS hSw; go_simp; (try with_reducible rfl))
    try simp only [Act.put]
    refine wpAnyH_take (i := 1) (v := ?_) rfl (by kernel_rfl) (by kernel_rfl) (by kernel_rfl) (fun _ _ _ h => h) (Or.inl ⟨by kernel_rfl, ?_⟩) (by assumption) ?_
    rotate_left 1
    · (intro wS hSw; go_simp; (try with_reducible rfl))
    try simp only [Act.put]
    refine wpAnyH_take (i := 2) (v := ?_) rfl (by kernel_rfl) (by kernel_rfl) (by kernel_rfl) (fun _ _ _ h => h) (Or.inl ⟨by kernel_rfl, ?_⟩) (by assumption) ?_
    rotate_left 1
    · (intro wS hSw; have c0 := cell_still q0 hSw; go_simp; (try with_reducible rfl))
    try simp only [Act.put]
    refine wpAnyH_take (i := 3) (v := ?_) rfl (by kernel_rfl) (by kernel_rfl) (by kernel_rfl) (fun _ _ _ h => h) (Or.inl ⟨by kernel_rfl, ?_⟩) (by assumption) ?_
    rotate_left 1
    · (intro wS hSw; go_simp; (try with_reducible rfl))
    try simp only [Act.put]
    refine wpAnyH_take (i := 4) (v := .slice (some ⟨xb, xo, none⟩) 0 0) rfl (by kernel_rfl) (by kernel_rfl) (by kernel_rfl) (fun _ _ _ h => h) (Or.inl ⟨by kernel_rfl, ?_⟩) (by assumption) ?_
    · (intro wS hSw; go_simp; (try simp only []))
    try simp only [Act.put]
    refine wpAnyH_take (i := 5) (v := ?_) rfl (by kernel_rfl) (by kernel_rfl) (by kernel_rfl) (fun _ _ _ h => h) (Or.inl ⟨by kernel_rfl, ?_⟩) (by assumption) ?_
    rotate_left 1
    · (intro wS hSw; have c0 := cell_still c1 hSw; go_simp; (try with_reducible rfl))
    try simp only [Act.put]
    have g1 : w.grownBy w.drew none := hHeld
    generalize hv : w.drew = v at g1 hHeld ⊢
    clear hv
    refine wpAnyH_ready (rs := [6]) (by kernel_rfl) (by simp) ?_
    refine AllReadyH.cons rfl (fun K hK => ?_) AllReadyH.nil
    go_simp
    refine (TG.out v g1).mono ?_
    rintro e w1 ⟨rfl, hg1⟩
    have gn := grown_trans g1 hg1
    refine hK.out _ _ gn (fun hHeld => ?_)
    clear hK K
    try simp only [Act.put]
    refine wpAnyH_take (i := 7) (v := ?_) rfl (by kernel_rfl) (by kernel_rfl) (by kernel_rfl) (fun _ _ _ h => h) (Or.inl ⟨by kernel_rfl, ?_⟩) (by assumption) ?_
    rotate_left 1
    · (intro wS hSw; go_simp; (try with_reducible rfl))
    try simp only [Act.put]
    refine wpAnyH_done (by kernel_rfl) ?_ _
    go_simp
    go_wp2
    go_ret
    exact ⟨by unfold maxL; rw [← HZ.out]; rfl, gn⟩
  · have cx0 : ¬ C = 0 := by omega
    have cx2 : (m : Int) ≤ (C : Int) := by omega
    have cx3 : ¬ (1 + (m : Int) < 1) := by omega
    have TG : Hid (∀ v, w.grownBy v none → Calls Tryz.prog 41 #[.int .i64 z, .slice (some ⟨xb, xo + 1, none⟩) m C, .func (.func 61) #[] #[.pointer (some ⟨p1, 0, none⟩), .pointer (some ⟨p2, 0, none⟩)]] v fun e w' => e = .returned (.int .i64 (xs.tail.foldl g z)) ∧ v.grownBy w' none) := fun v hv => by
      have e := ints_partR (HX.out.more hv) 1 m C (by rw [HM.out]; exact Nat.le_refl _) (Nat.le_refl _) hmC
      rw [List.take_of_length_le (by rw [List.length_drop, HM.out]; omega), List.drop_one] at e
      exact tog_any p1 p2 g z ⟨some ⟨xb, xo + 1, none⟩, m, C⟩ xs.tail v e (H2.out.more hv)
    go_enter Tryz.func43, Tryz.ntmps43
    go_upto_region 1 with fail
    refine wp_region_held_drew (S := fun w' => w.grownBy w' none) (by kernel_rfl) (grown_drew (grown_refl _)) (fun hHeld => ?_)
    refine wpAnyH_take (i := 0) (v := ?_) rfl (by kernel_rfl) (by kernel_rfl) (by kernel_rfl) (fun _ _ _ h => h) (Or.inl ⟨by kernel_rfl, ?_⟩) (by assumption) ?_
    rotate_left 1
    · (intro wS hSw; go_simp; (try with_reducible rfl))
    try simp only [Act.put]
    refine wpAnyH_take (i := 1) (v := ?_) rfl (by kernel_rfl) (by kernel_rfl) (by kernel_rfl) (fun _ _ _ h => h) (Or.inl ⟨by kernel_rfl, ?_⟩) (by assumption) ?_
    rotate_left 1
    · (intro wS hSw; go_simp; (try with_reducible rfl))
    try simp only [Act.put]
    refine wpAnyH_take (i := 2) (v := ?_) rfl (by kernel_rfl) (by kernel_rfl) (by kernel_rfl) (fun _ _ _ h => h) (Or.inl ⟨by kernel_rfl, ?_⟩) (by assumption) ?_
    rotate_left 1
    · (intro wS hSw; have c0 := cell_still q0 hSw; go_simp; (try with_reducible rfl))
    try simp only [Act.put]
    refine wpAnyH_take (i := 3) (v := ?_) rfl (by kernel_rfl) (by kernel_rfl) (by kernel_rfl) (fun _ _ _ h => h) (Or.inl ⟨by kernel_rfl, ?_⟩) (by assumption) ?_
    rotate_left 1
    · (intro wS hSw; go_simp; (try with_reducible rfl))
    try simp only [Act.put]
    refine wpAnyH_take (i := 4) (v := .slice (some ⟨xb, xo + 1, none⟩) m C) rfl (by kernel_rfl) (by kernel_rfl) (by kernel_rfl) (fun _ _ _ h => h) (Or.inl ⟨by kernel_rfl, ?_⟩) (by assumption) ?_
    · (intro wS hSw; go_simp; (try simp only []))
    try simp only [Act.put]
    refine wpAnyH_take (i := 5) (v := ?_) rfl (by kernel_rfl) (by kernel_rfl) (by kernel_rfl) (fun _ _ _ h => h) (Or.inl ⟨by kernel_rfl, ?_⟩) (by assumption) ?_
    rotate_left 1
    · (intro wS hSw; have c0 := cell_still c1 hSw; go_simp; (try with_reducible rfl))
    try simp only [Act.put]
    have g1 : w.grownBy w.drew none := hHeld
    generalize hv : w.drew = v at g1 hHeld ⊢
    clear hv
    refine wpAnyH_ready (rs := [6]) (by kernel_rfl) (by simp) ?_
    refine AllReadyH.cons rfl (fun K hK => ?_) AllReadyH.nil
    go_simp
    refine (TG.out v g1).mono ?_
    rintro e w1 ⟨rfl, hg1⟩
    have gn := grown_trans g1 hg1
    refine hK.out _ _ gn (fun hHeld => ?_)
    clear hK K
    try simp only [Act.put]
    refine wpAnyH_take (i := 7) (v := ?_) rfl (by kernel_rfl) (by kernel_rfl) (by kernel_rfl) (fun _ _ _ h => h) (Or.inl ⟨by kernel_rfl, ?_⟩) (by assumption) ?_
    rotate_left 1
    · (intro wS hSw; go_simp; (try with_reducible rfl))
    try simp only [Act.put]
    refine wpAnyH_done (by kernel_rfl) ?_ _
    go_simp
    go_wp2
    go_ret
    exact ⟨by unfold maxL; rw [← HZ.out]; rfl, gn⟩

end Go.Proofs.YtahmmilhmoogbaaGreatDoor

namespace Go.Proofs.YtahmmilhmoogbaaGreatDoor

open Go.RowKit

def flo (x : Int) : Int := Nu.tob (floatOfInt .f32 x)

def meanL (xs : List Int) : Int := (Nu.bin 3 1 (xs.foldl (fun x y => (Nu.bin 0 1 x y).1) 0) (flo xs.length)).1

end Go.Proofs.YtahmmilhmoogbaaGreatDoor

namespace Go.Proofs.YtahmmilhmoogbaaGreatDoor

open Go.RowKit

def argS (g : Int → Int → Int) (s : Int × Int × Int) (x : Int) : Int × Int × Int := (s.1 + 1, if g x s.2.2 = 1 then (s.1 + 1, x) else s.2)

def argL (g : Int → Int → Int) (xs : List Int) : Int := (xs.tail.foldl (argS g) (0, 0, xs.getD 0 0)).2.1

theorem set_grownR (x : World) (B j : Nat) (v : Value) : x.grownBy (x.setCell ⟨B, j, none⟩ v) (some B) :=
  ⟨rfl, rfl, rfl, by simp [World.setCell], fun k _ hk => Below.heap_setCell _ _ _ _ (fun e => hk (by rw [e]))⟩

theorem grown_anyR {a b : World} {B : Nat} (h : a.grownBy b none) : a.grownBy b (some B) := ⟨h.1, h.2, h.3, h.4, fun i hi _ => h.5 i hi (by simp)⟩

end Go.Proofs.YtahmmilhmoogbaaGreatDoor

namespace Go.Proofs.YtahmmilhmoogbaaGreatDoor

open Go.RowKit

theorem furF_all {d m : Nat} {g : Bool} {ps : List Int} (hd : 1 ≤ d) (h : ∀ p : Nat, p < m → (p : Int) ∈ ps) : ∀ p : Nat, p < m * (if g = true then 1 else d) → (p : Int) ∈ furF d g ps := by
  intro p hp
  unfold furF
  refine List.mem_flatMap.2 ?_
  cases g with
  | true =>
    rw [if_pos rfl, Nat.mul_one] at hp
    exact ⟨p, h p hp, List.mem_map.2 ⟨0, List.mem_range.2 hd, by simp [furG]⟩⟩
  | false =>
    rw [if_neg (by decide)] at hp
    refine ⟨((p / d : Nat) : Int), h _ (Nat.div_lt_of_lt_mul (by rw [Nat.mul_comm]; exact hp)), List.mem_map.2 ⟨p % d, List.mem_range.2 (Nat.mod_lt _ hd), ?_⟩⟩
    simp only [furG, Bool.false_eq_true, if_false]
    rw [← Int.natCast_mul, ← Int.natCast_add, Nat.mul_comm]
    exact congrArg Int.ofNat (Nat.div_add_mod p d)

theorem plF_all : ∀ (n : Nat) (x : List Int) (gone : List Bool), x.length = n → gone.length = n → (∀ z ∈ x, 1 ≤ z) → ∀ p : Nat, p < cntF x gone → (p : Int) ∈ plF x gone [0]
  | 0, x, gone, h1, h2, _, p, hp => by
    rw [List.length_eq_zero_iff.1 h1, List.length_eq_zero_iff.1 h2] at hp ⊢
    simp [cntF] at hp
    subst hp
    simp [plF]
  | n + 1, x, gone, h1, h2, hx, p, hp => by
    obtain ⟨ds, d, rfl⟩ : ∃ ds d, x = ds ++ [d] := ⟨x.dropLast, x.getLast (by intro e; rw [e] at h1; simp at h1), (List.dropLast_concat_getLast _).symm⟩
    obtain ⟨gs, g, rfl⟩ : ∃ gs g, gone = gs ++ [g] := ⟨gone.dropLast, gone.getLast (by intro e; rw [e] at h2; simp at h2), (List.dropLast_concat_getLast _).symm⟩
    have e1 : ds.length = n := by simpa using h1
    have e2 : gs.length = n := by simpa using h2
    have hd : 1 ≤ d := hx d (by simp)
    rw [cntF_snoc d g ds gs (by omega)] at hp
    rw [plF_snoc d g ds gs _ (by omega)]
    exact furF_all (by omega) (plF_all n ds gs e1 e2 (fun z hz => hx z (List.mem_append_left _ hz))) p hp

theorem grpR_pos {pl : List Int} {p : Nat} (h : (p : Int) ∈ pl) : 0 < (grpR pl pl.length p).length := by
  obtain ⟨i, hi, e⟩ := List.mem_iff_getElem.1 h
  unfold grpR
  rw [List.length_map]
  refine List.length_pos_of_mem (a := i) (List.mem_filter.2 ⟨List.mem_range.2 hi, ?_⟩)
  simp [List.getD, hi, e]

theorem row_base_leR {w : World} {base b' : Nat} {e : TypeId} {size : Nat} {v : Value} {n : Nat} {xs : List Value} (h : w.ownsRow base e size v n xs) (hb : b' ≤ base) : w.ownsRow b' e size v n xs := by
  refine ⟨h.1, ?_⟩
  rcases h.2 with h0 | ⟨g, cap, cur, e, hg, r⟩
  · exact .inl h0
  · exact .inr ⟨g, cap, cur, e, by omega, r⟩

def eachL (f : List Int → Int) (xs pl : List Int) (c : Nat) : List Int := (List.range c).map fun p => f (pickL xs (grpR pl pl.length p))

def Rng (z : Int) : Prop := -9223372036854775808 ≤ z ∧ z ≤ 9223372036854775807

theorem each_step (f : List Int → Int) (xs pl : List Int) (k : Nat) : eachL f xs pl (k + 1) = eachL f xs pl k ++ [f (pickL xs (grpR pl pl.length k))] := by
  unfold eachL
  rw [List.range_succ, List.map_append]
  rfl

set_option maxRecDepth 100000 in
set_option maxHeartbeats 8000000 in
theorem each_sum (n : Nod) (A : At) (X : Ten) (x xs : List Int) (gone : List Bool) (f : List Int → Int) (b : Nat) (w : World) (hn : NodeOk w n A) (hx : IsInts w X.dv.v x) (hxs : IsInts w X.tv.v xs) (hf : Fine x) (hl : (xs.length : Int) = prod x) (hax : axesO x.length (alongP A x.length) (List.replicate x.length false) = some gone) (hgl : gone.length = x.length) (hF : ∀ ys : List Int, (∀ y ∈ ys, Rng y) → 0 < ys.length → ys.length ≤ 65536 → Rng (f ys))
    (W : ∀ (wx : World) (u : Sl) (ys : List Int), w.grownBy wx none → IsInts wx u.v ys → 0 < ys.length → ys.length ≤ 65536 → Calls Tryz.prog 40 #[.slice u.a u.n u.c, .pointer (some ⟨b, 0, none⟩)] wx fun e w' => e = .returned (.int .i64 (f ys)) ∧ wx.grownBy w' none) :
    Calls Tryz.prog 22 #[nval n, .agg #[.int .i64 X.ty, .slice X.dv.a X.dv.n X.dv.c, .slice X.tv.a X.tv.n X.tv.c], .func (.func 40) #[] #[.pointer (some ⟨b, 0, none⟩)]] w fun e w' => ∃ s : Sl, e = .returned (.slice s.a s.n s.c) ∧ OwnsE w' w.heap.size s.v (eachL f xs (plF x gone [0]) (cntF x gone)) ∧ w.grownBy w' none := by
  obtain ⟨i0, hi0, hz0, hz1, hz2⟩ := info_parts info64E
  obtain ⟨ty, ⟨da, dn, dc⟩, ⟨ta, tn, tc⟩⟩ := X
  simp only [Sl.v] at hx hxs ⊢
  have HX := hide hx
  have HXS := hide hxs
  have HW := hide W
  have HFR := hide hF
  have PL0 := pls_any x.length x gone rfl hgl hf.pos
  have ALL := hide (plF_all x.length x gone rfl hgl hf.pos)
  have hpl : ((plF x gone [0]).length : Int) = xs.length := by rw [PL0.len, hl]
  have hc1 : cntF x gone ≤ 65536 := by have := PL0.cnt; have := hf.le; omega
  have hl1 : xs.length ≤ 65536 := by have := hf.le; omega
  obtain ⟨_, _, exs, e1, e2, e3⟩ := hxs.sl
  simp only [Value.slice.injEq] at exs
  obtain ⟨rfl, rfl, rfl⟩ := exs
  have GRP : Hid (∀ wx, w.grownBy wx none → Calls Tryz.prog 37 #[nval n, .slice da dn dc] wx fun e w' => ∃ (base Bw : Nat) (rs : List Sl), wx.heap.size ≤ base ∧ e = .returned (.slice (some ⟨Bw, 0, none⟩) (cntF x gone) (cntF x gone)) ∧ Gr w' base Bw (cntF x gone) (grpL (plF x gone [0]) (cntF x gone) (plF x gone [0]).length) rs ∧ wx.grownBy w' none) := fun wx hg => groups_any n A ⟨da, dn, dc⟩ x gone wx (hn.more hg) (hx.more hg) hf hax hgl
  obtain ⟨PL, hPL⟩ : ∃ PL, PL = plF x gone [0] := ⟨_, rfl⟩
  obtain ⟨C, hC⟩ : ∃ C, C = cntF x gone := ⟨_, rfl⟩
  rw [← hPL] at GRP ALL hpl ⊢
  rw [← hC] at GRP ALL hc1 ⊢
  clear hx hxs W hF PL0 hPL hC hf hax hgl hl
  have NK := hide hn
  obtain ⟨op, nam, ⟨ia, il, ic⟩, out, ⟨ao, al, cap⟩⟩ := n
  unfold nval
  simp only
  obtain ⟨w0, hw0⟩ : ∃ w0, w0 = w.alloc (.cells #[.string op, .string nam, .slice ia il ic, .string out, .slice ao al cap] 35) := ⟨_, rfl⟩
  have g0 : Hid (w.grownBy w0 none) := by show w.grownBy w0 none; rw [hw0]; exact grown_new _ _
  have hb0 := heap_alloc_new w (.cells #[.string op, .string nam, .slice ia il ic, .string out, .slice ao al cap] 35)
  rw [← hw0] at hb0
  have BX : Hid (∀ wx, w0.grownBy wx none → wx.heap[w.heap.size]? = some (.cells #[.string op, .string nam, .slice ia il ic, .string out, .slice ao al cap] 35 (0, 0))) := fun wx hg => box_kept hb0 hg
  clear hb0 hn
  unfold nval at GRP
  simp only at GRP
  obtain ⟨w1, hw1⟩ : ∃ w1, w1 = w0.alloc (.cells #[.int .i64 ty, .slice da dn dc, .slice ta xs.length tc] 25) := ⟨_, rfl⟩
  have hb1 := heap_alloc_new w0 (.cells #[.int .i64 ty, .slice da dn dc, .slice ta xs.length tc] 25)
  rw [← hw1] at hb1
  have g1 : w0.grownBy w1 none := by rw [hw1]; exact grown_new _ _
  have hs0 : w0.heap.size = w.heap.size + 1 := by rw [hw0]; simp
  rw [hs0] at hb1
  have BT : Hid (∀ wx, w1.grownBy wx none → wx.heap[w.heap.size + 1]? = some (.cells #[.int .i64 ty, .slice da dn dc, .slice ta xs.length tc] 25 (0, 0))) := fun wx hg => box_kept hb1 hg
  have G1 := hide (grown_trans g0.out g1)
  obtain ⟨n0, n1, n2, n3, n4⟩ := nod_cells (n := ⟨op, nam, ⟨ia, il, ic⟩, out, ⟨ao, al, cap⟩⟩) (BX.out w1 g1)
  obtain ⟨t0, t1, t2⟩ := ten_cells hb1
  have GR := hide (GRP.out w1 G1.out)
  rw [hw1, hw0] at n0 n1 n2 n3 n4 t0 t1 t2
  clear hb1 g1 GRP hs0
  go_enter Tryz.func22, Tryz.ntmps22
  go_wp2_with fail
  rw [← hw0, ← hw1]
  clear hw0 hw1 n0 n1 n2 n3 n4 t0 t1 t2
  refine GR.out.mono ?_
  rintro e w2 ⟨base, Bw, rs, hbase, rfl, hgr, hg2⟩
  have HGR := hide hgr
  have G2 := hide hg2
  clear hgr hg2 hbase GR
  go_wp2
  go_loopw [7, 15] (fun s i wr => ∃ (k : Nat) (u : Sl), k ≤ C ∧ i = .int .i64 k ∧ s = .slice u.a u.n u.c ∧ OwnsE wr w2.heap.size u.v (eachL f xs PL k) ∧ w2.grownBy wr none) (fun _ i _ => C - (intOf i).toNat)
  case atStart => exact ⟨0, ⟨none, 0, 0⟩, Nat.zero_le _, rfl, rfl, ⟨⟨by simp [eachL], .inl ⟨rfl, by simp [eachL]⟩⟩, by simp [eachL], fun z hz => by simp [eachL] at hz⟩, grown_refl _⟩
  case round =>
    obtain ⟨k, ⟨sa, sn, sc⟩, hk, rfl, rfl, ho, hg⟩ := hrel
    simp only
    have HO := hide ho
    have HG := hide hg
    have hsz := hg.size
    by_cases hlt : k < C
    · have gx := grown_trans G1.out (grown_trans G2.out hg)
      obtain ⟨rc, -⟩ := (HGR.out.new hg).rd hlt
      have EA := (HGR.out.new hg).each k hlt
      rw [grpL_at PL C PL.length k hlt] at EA
      obtain ⟨⟨ra, rn, rcap⟩, hrv⟩ : ∃ s, s = rs.getD k nilG := ⟨_, rfl⟩
      rw [← hrv] at rc EA
      simp only at rc
      have hpos := grpR_pos (ALL.out k hlt)
      have hle := grpR_le PL PL.length k
      have PK := hide (picked_any ⟨ta, xs.length, tc⟩ ⟨ra, rn, rcap⟩ xs (grpR PL PL.length k) wr (HXS.out.more gx) EA.ints (by omega) (fun z hz => by have := grpR_mem PL PL.length k z hz; omega))
      simp only at PK
      have HST := hide (each_step f xs PL k)
      have hel : (eachL f xs PL k).length = k := by simp [eachL]
      have RG := HFR.out (pickL xs (grpR PL PL.length k)) (fun y hy => by
        unfold pickL at hy
        obtain ⟨z, hz, rfl⟩ := List.mem_map.1 hy
        have hzz := grpR_mem PL PL.length k z hz
        exact HXS.out.wf _ (by simp [List.getD, show z.toNat < xs.length by omega])) (by unfold pickL; rw [List.length_map]; exact hpos) (by unfold pickL; rw [List.length_map]; omega)
      have lp : 0 < (pickL xs (grpR PL PL.length k)).length ∧ (pickL xs (grpR PL PL.length k)).length ≤ 65536 := by unfold pickL; rw [List.length_map]; exact ⟨hpos, by omega⟩
      have CW : Hid (∀ (wx : World) (u : Sl), wr.grownBy wx none → IsInts wx u.v (pickL xs (grpR PL PL.length k)) → Calls Tryz.prog 40 #[.slice u.a u.n u.c, .pointer (some ⟨b, 0, none⟩)] wx fun e w' => e = .returned (.int .i64 (f (pickL xs (grpR PL PL.length k)))) ∧ wx.grownBy w' none) := fun wx u h1 h2 => HW.out wx u _ (grown_trans gx h1) h2 lp.1 lp.2
      obtain ⟨t0, t1, t2⟩ := ten_cells (BT.out wr (grown_trans G2.out hg))
      obtain ⟨y, hy⟩ : ∃ y, y = f (pickL xs (grpR PL PL.length k)) := ⟨_, rfl⟩
      rw [← hy] at CW HST RG
      unfold Rng at RG
      have l1 : (k : Int) < (C : Int) := by omega
      clear ho hg gx EA hrv hpos hle lp hy
      go_wp2_with (first | (go_at_call 38; refine PK.out.mono ?_; rintro e w3 ⟨⟨pa, pn, pc⟩, rfl, hp3, hg3⟩; simp only) | fail)
      refine (CW.out w3 ⟨pa, pn, pc⟩ hg3 hp3).mono ?_
      rintro e w4 ⟨rfl, hg4⟩
      have h34 := grown_trans hg3 hg4
      have HO4 := HO.out.more h34 (by cases (Sl.v ⟨sa, sn, sc⟩).ownBlock <;> simp)
      have HG4 := hide (grown_trans HG.out h34)
      have sz4 := h34.size
      have OW : Hid (∀ o, (w4.alloc o).ownsRow w2.heap.size 2 1 (.slice sa sn sc) k ((eachL f xs PL k).map (Value.int .i64))) := fun o => ownsE_at (HO4.more (grown_new _ o) (by cases (Sl.v ⟨sa, sn, sc⟩).ownBlock <;> simp)) hel
      have HLT := hide (fun r (e : (Value.slice sa sn sc).ownBlock = some r) => (World.ownsRow.lt HO4.1 r e).1)
      clear hp3 hg3 hg4 h34 HO4
      go_wp2_with (first | (at_builtin; refine wpList_append_lies _ rfl (.tmp 19) (.tmp 26) 23 rfl w2.heap.size 2 i0 (.int .i64 0) 1 8 Tryz.underlying23 hi0 hz0 hz1 hz2 rfl (by decide) (.slice sa sn sc) k ((eachL f xs PL k).map (Value.int .i64)) rfl (by exact OW.out _) ⟨w4.heap.size, 0, none⟩ 1 1 [.int .i64 y] rfl rfl (by exact World.news_of_block (by have h := heap_alloc_new w4 (.cells #[.int .i64 y] 2); simpa using h)) (int_one y) (by omega) (by simp only [maxLen]; omega) (by omega) (by simp; omega) (w4.heap.size + 1) (by simp) ?_; intro gg cap8 w8 hown8 hgrow hat hlt8) | fail)
      have N1 := hide (ownsE_snoc hel hown8 (by omega) HO.out.2.2 RG)
      have N2 := hide (grown_trans_row (grown_trans HG4.out (grown_new _ _)) hgrow (fun r e => HLT.out r e))
      clear hown8 hgrow hat hlt8 HLT OW
      go_roundw
      case rel => exact ⟨k + 1, ⟨some ⟨gg, 0, none⟩, k + 1, cap8⟩, by omega, by go_num, rfl, by rw [HST.out]; exact N1.out, N2.out⟩
      case measure => simp [intOf]; omega
    · have hke : k = C := by omega
      subst hke
      have gx := hide (grown_trans G1.out (grown_trans G2.out hg))
      have hz := hide (Nat.le_trans G1.out.size G2.out.size)
      clear ho hg
      go_wp2
      go_ret
      exact ⟨⟨sa, sn, sc⟩, rfl, ⟨row_base_leR HO.out.1 hz.out, HO.out.2⟩, gx.out⟩

end Go.Proofs.YtahmmilhmoogbaaGreatDoor

namespace Go.Proofs.YtahmmilhmoogbaaGreatDoor

open Go.RowKit

def topOf (s : Stepped) : Frame :=
  match s with
  | .next m => match m.gs.toList with
    | [g] => g.frame
    | _ => { fn := 0, tmps := #[], todo := [], defers := [], mode := .run, kind := .normal }
  | _ => { fn := 0, tmps := #[], todo := [], defers := [], mode := .run, kind := .normal }

theorem calls_of_run {P : Program} {f : FuncId} {fn : Func} {args : Array Value} {w : World} {v : Value} (N : Nat) (hf : P.funcs[f]? = some fn)
    (h1 : ∀ cs, runN P N (lone (Frame.enter P f args .normal) cs w) = .next (lone (topOf (runN P N (lone (Frame.enter P f args .normal) cs w))) cs w))
    (h2 : ∀ cs, (fun fr : Frame => (fr.fn, fr.mode, fr.defers, fr.kind, (results fn fr.tmps).run P w)) (topOf (runN P N (lone (Frame.enter P f args .normal) cs w))) = (f, .returning, [], .normal, .ok v w)) :
    Calls P f args w fun e w' => e = .returned v ∧ w' = w := by
  intro cs
  have a := h2 cs
  simp only [Prod.mk.injEq] at a
  obtain ⟨a1, a2, a3, a4, a5⟩ := a
  refine ⟨.returned v, w, topOf (runN P N (lone (Frame.enter P f args .normal) cs w)), ⟨rfl, rfl⟩, ⟨N, h1 cs⟩, a1, a2, a3, a4, fn, ?_, a5⟩
  rw [a1]; exact hf

end Go.Proofs.YtahmmilhmoogbaaGreatDoor
