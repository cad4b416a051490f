/- Joined texts: CvOn, CvMd. -/
import Derived.Test.YtkefdkboejimeaaGreatDoorPartBN
import Derived.Deep.CutRange
import Derived.Test.YtkefdkboejimeaaGreatDoorPartBI
import Derived.Deep.RegionHeld3
namespace Go.Proofs.YtkefdkboejimeaaGreatDoor

open Go.RowKit

def prod4 (xs ys : List Int) : Int := prodW [xs] [ys] (wpl 2 2 2 0 0) 1

theorem prod4_rng (xs ys : List Int) : Rng (prod4 xs ys) := by
  have h := fadd_chk (dotW 0 xs ys [(0, 0), (1, 1), (2, 2)]) (fmul (xs.getD 3 0) (ys.getD 3 0))
  have e : prod4 xs ys = fadd (dotW 0 xs ys [(0, 0), (1, 1), (2, 2)]) (fmul (xs.getD 3 0) (ys.getD 3 0)) := rfl
  rw [e]
  exact add_rng 1 _ _

theorem imgs_one {xs : List Int} (hl : xs.length = 4) : imgsL xs 4 1 = [xs] := by
  simp only [imgsL, imgL, List.range_one, List.map_cons, List.map_nil, Nat.zero_mul, List.drop_zero]
  rw [← hl, List.take_length]

theorem IsInts.putAway2 {w w' : World} {v : Value} {zs : List Int} {B n c : Nat} {a : Option Addr} {te : TypeId} (h : IsInts w v zs) (hb : w.heap[B]? = some (.cells #[.slice a n c] te (0, 0))) (hg : w.grownBy w' (some B)) : IsInts w' v zs := by
  obtain ⟨ao, cap, rfl, h1, h2, h3, h4, h5, h6⟩ := h
  refine ⟨ao, cap, rfl, h1, h2, h3, h4, fun hl => ?_, h6⟩
  obtain ⟨b, off, rfl, hc⟩ := h5 hl
  have hne : b ≠ B := fun e => by
    subst e
    have h9 := hc 0 hl
    rw [cell_of_row w b (off + 0) _ _ (0, 0) hb] at h9
    cases off with
    | zero => simp at h9
    | succ off => simp at h9
  exact ⟨b, off, rfl, fun t ht => cell_far (hc t ht) hg hne⟩

theorem Rws.putAway {w w' : World} {B off b n c : Nat} {ss : List Sl} {L : List (List Int)} {a : Option Addr} {te : TypeId} (h : Rws w B off ss L) (hb : w.heap[b]? = some (.cells #[.slice a n c] te (0, 0))) (hne : B ≠ b) (hg : w.grownBy w' (some b)) : Rws w' B off ss L :=
  ⟨h.sl, fun k hk => cell_far (h.at' k hk) hg hne, fun k hk => (h.each k hk).putAway2 hb hg⟩

theorem Rws.lt {w : World} {B off : Nat} {ss : List Sl} {x : List Int} {L : List (List Int)} (h : Rws w B off ss (x :: L)) : B < w.heap.size := World.block_lt_of_cell? w _ (h.at' 0 (by simp))

set_option maxRecDepth 100000 in
set_option maxHeartbeats 4000000 in
theorem conv1_one (p1 p2 p3 h v c1 c2 c3 c4 B1 B2 : Nat) (s1 s2 : List Sl) (xs ys : List Int) (w : World) (b1 : w.heap[c1]? = some (.cells #[.slice (some ⟨B1, 0, none⟩) 1 1] 85 (0, 0))) (b2 : w.heap[c2]? = some (.cells #[.slice (some ⟨B2, 0, none⟩) 1 1] 85 (0, 0))) (b3 : w.heap[c3]? = some (.cells #[.int .i64 0] 3 (0, 0))) (b4 : w.heap[c4]? = some (.cells #[.int .i64 1] 3 (0, 0))) (hp : PlB 2 2 2 2 h v w p1 p2 p3) (hh : h < 1) (hv : v < 1) (r1 : Rws w B1 0 s1 [xs]) (r2 : Rws w B2 0 s2 [ys]) (l1 : xs.length = 4) (l2 : ys.length = 4) :
    Calls Tryz.prog 58 #[plV p1 p2 p3, .pointer (some ⟨c1, 0, none⟩), .pointer (some ⟨c2, 0, none⟩), .pointer (some ⟨c3, 0, none⟩), .pointer (some ⟨c4, 0, none⟩)] w fun e w' => e = .returned (.int .i64 (prod4 xs ys)) ∧ w.grownBy w' none := by
  obtain rfl : h = 0 := by omega
  obtain rfl : v = 0 := by omega
  have k1 := one_cell b1
  have k2 := one_cell b2
  have k3 := one_cell b3
  have k4 := one_cell b4
  have PW : Hid (∀ wx, w.grownBy wx none → Calls Tryz.prog 59 #[.slice (some ⟨B1, 0, none⟩) 1 1, .slice (some ⟨B2, 0, none⟩) 1 1, plV p1 p2 p3] wx fun e w' => e = .returned (.int .i64 (prod4 xs ys)) ∧ wx.grownBy w' none) := fun wx hx => product_win 2 2 2 2 0 0 p1 p2 p3 B1 0 1 B2 0 1 s1 s2 [xs] [ys] wx (hp.more hx) (by omega) (by omega) (by omega) (by omega) (by omega) (by omega) (r1.more hx) (r2.more hx) rfl (fun c hc => by rw [List.mem_singleton.1 hc]; exact l1) (fun c hc => by rw [List.mem_singleton.1 hc]; exact l2) (by simp) (by omega) (by omega)
  generalize prod4 xs ys = z at PW ⊢
  clear b1 b2 b3 b4 hp hh hv r1 r2 l1 l2
  unfold plV at PW ⊢
  go_enter Tryz.func58, Tryz.ntmps58
  go_upto_region 1 with fail
  refine wp_region_held_drew (S := fun w' => w.grownBy w' none) (by kernel_rfl) (grown_drew (grown_refl _)) (fun hHeld => ?_)
  refine wpAnyH_take (i := 0) (v := ?_) rfl (by kernel_rfl) (by kernel_rfl) (by kernel_rfl) (fun _ _ _ h => h) (Or.inl ⟨by kernel_rfl, ?_⟩) (by assumption) ?_
  rotate_left 1
  · (intro wS hSw; have c0 := cell_still k1 hSw; go_simp; (try with_reducible rfl))
  try simp only [Act.put]
  refine wpAnyH_take (i := 1) (v := ?_) rfl (by kernel_rfl) (by kernel_rfl) (by kernel_rfl) (fun _ _ _ h => h) (Or.inl ⟨by kernel_rfl, ?_⟩) (by assumption) ?_
  rotate_left 1
  · (intro wS hSw; have c0 := cell_still k2 hSw; go_simp; (try with_reducible rfl))
  try simp only [Act.put]
  refine wpAnyH_take (i := 2) (v := ?_) rfl (by kernel_rfl) (by kernel_rfl) (by kernel_rfl) (fun _ _ _ h => h) (Or.inl ⟨by kernel_rfl, ?_⟩) (by assumption) ?_
  rotate_left 1
  · (intro wS hSw; have c0 := cell_still k3 hSw; go_simp; (try with_reducible rfl))
  try simp only [Act.put]
  refine wpAnyH_take (i := 3) (v := ?_) rfl (by kernel_rfl) (by kernel_rfl) (by kernel_rfl) (fun _ _ _ h => h) (Or.inl ⟨by kernel_rfl, ?_⟩) (by assumption) ?_
  rotate_left 1
  · (intro wS hSw; have c0 := cell_still k4 hSw; go_simp; (try with_reducible rfl))
  try simp only [Act.put]
  refine wpAnyH_take (i := 4) (v := .int .i64 0) rfl (by kernel_rfl) (by kernel_rfl) (by kernel_rfl) (fun _ _ _ h => h) (Or.inl ⟨by kernel_rfl, ?_⟩) (by assumption) ?_
  · (intro wS hSw; go_simp; (try rfl))
  try simp only [Act.put]
  refine wpAnyH_take (i := 5) (v := .slice (some ⟨B2, 0, none⟩) 1 1) rfl (by kernel_rfl) (by kernel_rfl) (by kernel_rfl) (fun _ _ _ h => h) (Or.inl ⟨by kernel_rfl, ?_⟩) (by assumption) ?_
  · (intro wS hSw; go_simp; (try rfl))
  try simp only [Act.put]
  refine wpAnyH_take (i := 6) (v := ?_) rfl (by kernel_rfl) (by kernel_rfl) (by kernel_rfl) (fun _ _ _ h => h) (Or.inl ⟨by kernel_rfl, ?_⟩) (by assumption) ?_
  rotate_left 1
  · (intro wS hSw; have c0 := cell_still k4 hSw; go_simp; (try with_reducible rfl))
  try simp only [Act.put]
  refine wpAnyH_take (i := 7) (v := .slice (some ⟨B2, 0, none⟩) 1 1) rfl (by kernel_rfl) (by kernel_rfl) (by kernel_rfl) (fun _ _ _ h => h) (Or.inl ⟨by kernel_rfl, ?_⟩) (by assumption) ?_
  · (intro wS hSw; go_simp; (try rfl))
  try simp only [Act.put]
  refine wpAnyH_take (i := 8) (v := ?_) rfl (by kernel_rfl) (by kernel_rfl) (by kernel_rfl) (fun _ _ _ h => h) (Or.inl ⟨by kernel_rfl, ?_⟩) (by assumption) ?_
  rotate_left 1
  · (intro wS hSw; go_simp; (try with_reducible rfl))
  try simp only [Act.put]
  refine wpAnyH_ready (rs := [9]) (by kernel_rfl) (by simp) ?_
  refine AllReadyH.cons rfl (fun K hK => ?_) AllReadyH.nil
  go_simp
  refine (PW.out _ (grown_drew (grown_refl _))).mono ?_
  rintro e w1 ⟨rfl, hg1⟩
  have g1 : w.grownBy w1 none := ⟨hg1.os, hg1.tape, hg1.output, hg1.size, hg1.block⟩
  refine hK.out _ _ (g1) (fun hHeld => ?_)
  clear hK K
  try simp only [Act.put]
  refine wpAnyH_take (i := 10) (v := ?_) rfl (by kernel_rfl) (by kernel_rfl) (by kernel_rfl) (fun _ _ _ h => h) (Or.inl ⟨by kernel_rfl, ?_⟩) (by assumption) ?_
  rotate_left 1
  · (intro wS hSw; go_simp; (try with_reducible rfl))
  try simp only [Act.put]
  refine wpAnyH_done (by kernel_rfl) ?_ _
  go_simp
  go_wp2
  go_ret
  exact ⟨rfl, g1⟩

set_option maxRecDepth 100000 in
set_option maxHeartbeats 8000000 in
theorem convolved_one (n : Nod) (A : At) (u : Sl) (T0 T1 : Ten) (xs ys : List Int) (dv : Sl) (w : World) (hn : NodeOk w n A) (hv : TensIn w u.v [(T0, ([1, 1, 2, 2], xs)), (T1, ([1, 1, 2, 2], ys))]) (hd : IsInts w dv.v [1, 1, 1, 1]) (lx : xs.length = 4) (ly : ys.length = 4) (hgr : A.int ⟨#[103, 114, 111, 117, 112]⟩ 1 = 1) (hs : A.ints ⟨#[115, 116, 114, 105, 100, 101, 115]⟩ [1, 1] = [1, 1]) (hl : A.ints ⟨#[100, 105, 108, 97, 116, 105, 111, 110, 115]⟩ [1, 1] = [1, 1]) (hp : A.ints ⟨#[112, 97, 100, 115]⟩ [0, 0, 0, 0] = [0, 0, 0, 0]) :
    Calls Tryz.prog 25 #[nval n, .slice u.a u.n u.c, .slice dv.a dv.n dv.c] w fun e w' => ∃ s : Sl, e = .returned (.slice s.a s.n s.c) ∧ OwnsE w' w.heap.size s.v [prod4 xs ys] ∧ w.grownBy w' none := by
  obtain ⟨i0, hi0, hz0, hz1, hz2⟩ := info_parts info64E
  obtain ⟨xa, xc, e1, p1, p2, p3⟩ := hv.vals.form
  obtain ⟨ua, un, uc⟩ := u
  simp only [Sl.v, List.map_cons, List.map_nil, List.length_cons, List.length_nil, Value.slice.injEq, Nat.zero_add, Nat.reduceAdd] at e1
  obtain ⟨rfl, rfl, rfl⟩ := e1
  obtain ⟨ub, uo, rfl⟩ := hv.vals.addr (k := 0) (by simp)
  obtain ⟨t0, t1, t2⟩ := hv.at 0 (by simp)
  obtain ⟨s0, s1, s2⟩ := hv.at 1 (by simp)
  have HH0 := hv.has (T0, ([1, 1, 2, 2], xs)) (by simp)
  have HH1 := hv.has (T1, ([1, 1, 2, 2], ys)) (by simp)
  have II0 : Hid (∀ wx, w.grownBy wx none → Calls Tryz.prog 54 #[.agg #[.int .i64 T0.ty, .slice T0.dv.a T0.dv.n T0.dv.c, .slice T0.tv.a T0.tv.n T0.tv.c]] wx fun e w' => ∃ (B : Nat) (ss : List Sl), e = .returned (.slice (some ⟨B, 0, none⟩) 1 1) ∧ Rws w' B 0 ss (imgsL xs 4 1) ∧ wx.heap.size ≤ B ∧ wx.grownBy w' none) := fun wx hg => images_any T0 1 1 2 2 1 4 xs wx (HH0.1.more hg) (HH0.2.more hg) rfl rfl lx (by omega) (by omega) (by omega)
  have II1 : Hid (∀ wx, w.grownBy wx none → Calls Tryz.prog 54 #[.agg #[.int .i64 T1.ty, .slice T1.dv.a T1.dv.n T1.dv.c, .slice T1.tv.a T1.tv.n T1.tv.c]] wx fun e w' => ∃ (B : Nat) (ss : List Sl), e = .returned (.slice (some ⟨B, 0, none⟩) 1 1) ∧ Rws w' B 0 ss (imgsL ys 4 1) ∧ wx.heap.size ≤ B ∧ wx.grownBy w' none) := fun wx hg => images_any T1 1 1 2 2 1 4 ys wx (HH1.1.more hg) (HH1.2.more hg) rfl rfl ly (by omega) (by omega) (by omega)
  have WI : Hid (∀ (wx : World) (B : Nat), w.grownBy wx none → wx.heap[B]? = some (.cells #[.int .i64 2, .int .i64 2] 2 (0, 0)) → Calls Tryz.prog 55 #[nval n, .slice T0.dv.a T0.dv.n T0.dv.c, .slice (some ⟨B, 0, none⟩) 2 2] wx fun e w' => e = .returned (.agg #[.int .i64 2, .int .i64 2, .int .i64 1, .int .i64 1, .int .i64 0, .int .i64 2, .int .i64 2, .int .i64 1, .int .i64 1, .int .i64 0]) ∧ wx.grownBy w' none) := fun wx B hg hB => windowsOf_any n A T0.dv ⟨some ⟨B, 0, none⟩, 2, 2⟩ 1 1 2 2 2 2 wx (hn.more hg) (HH0.1.more hg) (ints_two hB (by omega) (by omega)) hs hl hp
  have GI : Hid (∀ wx, w.grownBy wx none → Calls Tryz.prog 56 #[nval n, .string ⟨#[103, 114, 111, 117, 112]⟩, .int .i64 1] wx fun e w' => e = .returned (.int .i64 1) ∧ wx.grownBy w' none) := fun wx hg => by
    have h := nint_any n A ⟨#[103, 114, 111, 117, 112]⟩ 1 wx (hn.more hg)
    rw [hgr] at h
    exact h
  have HD := hide hd
  have HLX := hide lx
  have HLY := hide ly
  obtain ⟨da, dn, dc⟩ := dv
  obtain ⟨_, _, ed, -, -, -⟩ := hd.sl
  simp only [Sl.v, Value.slice.injEq, List.length_cons, List.length_nil, Nat.zero_add, Nat.reduceAdd] at ed hd
  obtain ⟨rfl, rfl, rfl⟩ := ed
  obtain ⟨bd, od, rfl⟩ := addr_of hd (by simp)
  have d0 := item_at hd (k := 0) (by simp)
  have d1 := item_at hd (k := 1) (by simp)
  simp only [List.getD_cons_zero, List.getD_cons_succ, Nat.add_zero] at d0 d1
  obtain ⟨tx, ⟨xda, xdn, xdc⟩, ⟨xta, xtn, xtc⟩⟩ := T0
  obtain ⟨ty, ⟨yda, ydn, ydc⟩, ⟨yta, ytn, ytc⟩⟩ := T1
  simp only [List.getElem_cons_zero, List.getElem_cons_succ, Nat.zero_mul, Nat.add_zero, Nat.one_mul] at t0 t1 t2 s0 s1 s2 HH0 HH1 II0 II1 WI
  obtain ⟨_, _, ey, -, -, -⟩ := HH1.1.sl
  simp only [Sl.v, Value.slice.injEq, List.length_cons, List.length_nil, Nat.zero_add, Nat.reduceAdd] at ey
  obtain ⟨rfl, rfl, rfl⟩ := ey
  have hy1 : IsInts w (.slice yda 4 ydc) [1, 1, 2, 2] := HH1.1
  obtain ⟨by', oy, rfl⟩ := addr_of hy1 (by simp)
  have y1 := item_at hy1 (k := 1) (by simp)
  have y2 := item_at hy1 (k := 2) (by simp)
  have y3 := item_at hy1 (k := 3) (by simp)
  simp only [List.getD_cons_zero, List.getD_cons_succ] at y1 y2 y3
  have hx1 : IsInts w (.slice xda xdn xdc) [1, 1, 2, 2] := HH0.1
  obtain ⟨_, _, ex, -, -, -⟩ := hx1.sl
  simp only [Value.slice.injEq, List.length_cons, List.length_nil, Nat.zero_add, Nat.reduceAdd] at ex
  obtain ⟨rfl, rfl, rfl⟩ := ex
  obtain ⟨bx', ox, rfl⟩ := addr_of hx1 (by simp)
  have x1 := item_at hx1 (k := 1) (by simp)
  simp only [List.getD_cons_zero, List.getD_cons_succ] at x1
  obtain ⟨op, nam, ⟨ia, il, ic⟩, out, ⟨ao, al, cap⟩⟩ := n
  unfold nval at WI GI ⊢
  simp only at WI GI ⊢
  obtain ⟨w0, hw0⟩ : ∃ w0, w0 = w.alloc (.cells #[.string op, .string nam, .slice ia il ic, .string out, .slice ao al cap] 35) := ⟨_, rfl⟩
  have g0 : w.grownBy w0 none := by rw [hw0]; exact grown_new _ _
  have hb0 := heap_alloc_new w (.cells #[.string op, .string nam, .slice ia il ic, .string out, .slice ao al cap] 35)
  rw [← hw0] at hb0
  have BN := hide hb0
  have t0 := cell_still t0 g0
  have t1 := cell_still t1 g0
  have t2 := cell_still t2 g0
  have s0 := cell_still s0 g0
  have s1 := cell_still s1 g0
  have s2 := cell_still s2 g0
  have Y1 := hide (cell_still y1 g0)
  have Y2 := hide (cell_still y2 g0)
  have Y3 := hide (cell_still y3 g0)
  have X1 := hide (cell_still x1 g0)
  have E0 := hide (cell_still d0 g0)
  have E1 := hide (cell_still d1 g0)
  have G0 := hide g0
  clear hn hv hd lx ly hgr hs hl hp HH0 HH1 y1 y2 y3 x1 d0 d1 hb0 g0 hx1 hy1 p1 p2 p3
  go_enter Tryz.func25, Tryz.ntmps25
  go_upto_region 1 with fail
  rw [← hw0]
  clear hw0
  go_cut [7, 8] from 19 to 24 (fun t7 t8 wx => w0.grownBy wx none ∧ ∃ b7 b8 : Nat, t7 = .pointer (some ⟨b7, 0, none⟩) ∧ t8 = .pointer (some ⟨b8, 0, none⟩) ∧ wx.heap[b7]? = some (.cells #[.int .i64 tx, .slice (some ⟨bx', ox, none⟩) 4 xdc, .slice xta xtn xtc] 25 (0, 0)) ∧ wx.heap[b8]? = some (.cells #[.int .i64 ty, .slice (some ⟨by', oy, none⟩) 4 ydc, .slice yta ytn ytc] 25 (0, 0)))
  case first =>
    refine wp_region_held_drew (S := fun w' => w0.grownBy w' none) (by kernel_rfl) (grown_drew (grown_refl _)) (fun hHeld => ?_)
    refine wpAnyH_take (i := 0) (v := ?_) rfl (by kernel_rfl) (by kernel_rfl) (by kernel_rfl) (fun _ _ _ h => h) (Or.inl ⟨by kernel_rfl, ?_⟩) (by assumption) ?_
    rotate_left 1
    · (intro wS hSw; go_simp; (try with_reducible rfl))
    try simp only [Act.put]
    refine wpAnyH_take (i := 1) (v := ?_) rfl (by kernel_rfl) (by kernel_rfl) (by kernel_rfl) (fun _ _ _ h => h) (Or.inl ⟨by kernel_rfl, ?_⟩) (by assumption) ?_
    rotate_left 1
    · (intro wS hSw; go_simp; (try with_reducible rfl))
    try simp only [Act.put]
    refine wpAnyH_take (i := 2) (v := ?_) rfl (by kernel_rfl) (by kernel_rfl) (by kernel_rfl) (fun _ _ _ h => h) (Or.inl ⟨by kernel_rfl, ?_⟩) (by assumption) ?_
    rotate_left 1
    · (intro wS hSw; have c0 := cell_still t0 hSw; have c1 := cell_still t1 hSw; have c2 := cell_still t2 hSw; go_simp; (try with_reducible rfl))
    try simp only [Act.put]
    refine wpAnyH_take (i := 3) (v := ?_) rfl (by kernel_rfl) (by kernel_rfl) (by kernel_rfl) (fun _ _ _ h => h) (Or.inl ⟨by kernel_rfl, ?_⟩) (by assumption) ?_
    rotate_left 1
    · (intro wS hSw; go_simp; (try with_reducible rfl))
    try simp only [Act.put]
    refine wpAnyH_take (i := 4) (v := ?_) rfl (by kernel_rfl) (by kernel_rfl) (by kernel_rfl) (fun _ _ _ h => h) (Or.inl ⟨by kernel_rfl, ?_⟩) (by assumption) ?_
    rotate_left 1
    · (intro wS hSw; go_simp; (try with_reducible rfl))
    try simp only [Act.put]
    refine wpAnyH_take (i := 5) (v := ?_) rfl (by kernel_rfl) (by kernel_rfl) (by kernel_rfl) (fun _ _ _ h => h) (Or.inl ⟨by kernel_rfl, ?_⟩) (by assumption) ?_
    rotate_left 1
    · (intro wS hSw; have c0 := cell_still s0 hSw; have c1 := cell_still s1 hSw; have c2 := cell_still s2 hSw; go_simp; (try with_reducible rfl))
    try simp only [Act.put]
    refine wpAnyH_ready (rs := [6, 7]) (by kernel_rfl) (by simp) ?_
    refine AllReadyH.cons rfl (fun K hK => ?_) (AllReadyH.cons rfl (fun K hK => ?_) AllReadyH.nil)
    · go_simp
      have hp := heap_alloc_new w0 (.cells #[.int .i64 0, .slice none 0 0, .slice none 0 0] 25)
      replace hp : (w0.alloc (.cells #[.int .i64 0, .slice none 0 0, .slice none 0 0] 25)).drew.heap[w0.heap.size]? = some (.cells #[.int .i64 0, .slice none 0 0, .slice none 0 0] 25 (0, 0)) := hp
      have g1 : w0.grownBy (w0.alloc (.cells #[.int .i64 0, .slice none 0 0, .slice none 0 0] 25)).drew none := grown_drew (grown_new _ _)
      have z1 : (w0.alloc (.cells #[.int .i64 0, .slice none 0 0, .slice none 0 0] 25)).drew.heap.size = w0.heap.size + 1 := by show (w0.alloc (.cells #[.int .i64 0, .slice none 0 0, .slice none 0 0] 25)).heap.size = _; simp
      generalize (w0.alloc (.cells #[.int .i64 0, .slice none 0 0, .slice none 0 0] 25)).drew = v1 at hp g1 z1 ⊢
      refine hK.out _ _ g1 (fun hHeld => ?_)
      clear hK K
      try simp only [Act.put]
      refine wpAnyH_ready (rs := [7]) (by kernel_rfl) (by simp) ?_
      refine AllReadyH.cons rfl (fun K hK => ?_) AllReadyH.nil
      go_simp
      have hq := heap_alloc_new v1 (.cells #[.int .i64 0, .slice none 0 0, .slice none 0 0] 25)
      have gq := grown_new v1 (.cells #[.int .i64 0, .slice none 0 0, .slice none 0 0] 25)
      have hp2 := box_kept hp gq
      rw [z1] at hq
      generalize v1.alloc (.cells #[.int .i64 0, .slice none 0 0, .slice none 0 0] 25) = v2 at hq gq hp2 ⊢
      have g2 := grown_trans g1 gq
      refine hK.out _ _ g2 (fun hHeld => ?_)
      clear hK K
      try simp only [Act.put]
      obtain ⟨st8, sg8⟩ := store3t (.int .i64 tx) (.slice (some ⟨bx', ox, none⟩) 4 xdc) (.slice xta xtn xtc) hp2
      obtain ⟨j80, j81, j82⟩ := ten_cells hp2
      obtain ⟨f80, f81, f82⟩ := ten_frozen hp2
      refine wpAnyH_ready (rs := [8]) (by kernel_rfl) (by simp) ?_
      refine AllReadyH.cons rfl (fun K hK => ?_) AllReadyH.nil
      go_simp
      have o8 : (((v2.setCell ⟨w0.heap.size, 0, none⟩ (.int .i64 tx)).setCell ⟨w0.heap.size, 1, none⟩ (.slice (some ⟨bx', ox, none⟩) 4 xdc)).setCell ⟨w0.heap.size, 2, none⟩ (.slice xta xtn xtc)).heap[w0.heap.size + 1]? = _ := (sg8.block (w0.heap.size + 1) (Array.getElem?_eq_some_iff.1 hq).1 (by simp)).trans hq
      have y8 := grown_trans_row g2 sg8 (fun r e => by cases e; omega)
      generalize (((v2.setCell ⟨w0.heap.size, 0, none⟩ (.int .i64 tx)).setCell ⟨w0.heap.size, 1, none⟩ (.slice (some ⟨bx', ox, none⟩) 4 xdc)).setCell ⟨w0.heap.size, 2, none⟩ (.slice xta xtn xtc)) = v3 at st8 sg8 o8 y8 ⊢
      refine hK.out _ _ y8 (fun hHeld => ?_)
      clear hK K j80 f80 j81 f81 j82 f82
      try simp only [Act.put]
      obtain ⟨st9, sg9⟩ := store3t (.int .i64 ty) (.slice (some ⟨by', oy, none⟩) 4 ydc) (.slice yta ytn ytc) o8
      obtain ⟨j90, j91, j92⟩ := ten_cells o8
      obtain ⟨f90, f91, f92⟩ := ten_frozen o8
      refine wpAnyH_ready (rs := [9]) (by kernel_rfl) (by simp) ?_
      refine AllReadyH.cons rfl (fun K hK => ?_) AllReadyH.nil
      go_simp
      have o9 : (((v3.setCell ⟨w0.heap.size + 1, 0, none⟩ (.int .i64 ty)).setCell ⟨w0.heap.size + 1, 1, none⟩ (.slice (some ⟨by', oy, none⟩) 4 ydc)).setCell ⟨w0.heap.size + 1, 2, none⟩ (.slice yta ytn ytc)).heap[w0.heap.size]? = _ := (sg9.block (w0.heap.size) (Array.getElem?_eq_some_iff.1 st8).1 (by simp)).trans st8
      have y9 := grown_trans_row y8 sg9 (fun r e => by cases e; omega)
      generalize (((v3.setCell ⟨w0.heap.size + 1, 0, none⟩ (.int .i64 ty)).setCell ⟨w0.heap.size + 1, 1, none⟩ (.slice (some ⟨by', oy, none⟩) 4 ydc)).setCell ⟨w0.heap.size + 1, 2, none⟩ (.slice yta ytn ytc)) = v4 at st9 sg9 o9 y9 ⊢
      refine hK.out _ _ y9 (fun hHeld => ?_)
      clear hK K j90 f90 j91 f91 j92 f92
      try simp only [Act.put]
      refine wpAnyH_done (by kernel_rfl) ?_ _
      clear hp hp2 hq g1 gq g2 z1 sg8 sg9
      go_simp
      go_wp2_with fail
      go_meet
      exact ⟨y9, w0.heap.size, w0.heap.size + 1, rfl, rfl, o9, st9⟩
    · go_simp
      have hp := heap_alloc_new w0 (.cells #[.int .i64 0, .slice none 0 0, .slice none 0 0] 25)
      replace hp : (w0.alloc (.cells #[.int .i64 0, .slice none 0 0, .slice none 0 0] 25)).drew.heap[w0.heap.size]? = some (.cells #[.int .i64 0, .slice none 0 0, .slice none 0 0] 25 (0, 0)) := hp
      have g1 : w0.grownBy (w0.alloc (.cells #[.int .i64 0, .slice none 0 0, .slice none 0 0] 25)).drew none := grown_drew (grown_new _ _)
      have z1 : (w0.alloc (.cells #[.int .i64 0, .slice none 0 0, .slice none 0 0] 25)).drew.heap.size = w0.heap.size + 1 := by show (w0.alloc (.cells #[.int .i64 0, .slice none 0 0, .slice none 0 0] 25)).heap.size = _; simp
      generalize (w0.alloc (.cells #[.int .i64 0, .slice none 0 0, .slice none 0 0] 25)).drew = v1 at hp g1 z1 ⊢
      refine hK.out _ _ g1 (fun hHeld => ?_)
      clear hK K
      try simp only [Act.put]
      refine wpAnyH_ready (rs := [6]) (by kernel_rfl) (by simp) ?_
      refine AllReadyH.cons rfl (fun K hK => ?_) AllReadyH.nil
      go_simp
      have hq := heap_alloc_new v1 (.cells #[.int .i64 0, .slice none 0 0, .slice none 0 0] 25)
      have gq := grown_new v1 (.cells #[.int .i64 0, .slice none 0 0, .slice none 0 0] 25)
      have hp2 := box_kept hp gq
      rw [z1] at hq
      generalize v1.alloc (.cells #[.int .i64 0, .slice none 0 0, .slice none 0 0] 25) = v2 at hq gq hp2 ⊢
      have g2 := grown_trans g1 gq
      refine hK.out _ _ g2 (fun hHeld => ?_)
      clear hK K
      try simp only [Act.put]
      obtain ⟨st8, sg8⟩ := store3t (.int .i64 tx) (.slice (some ⟨bx', ox, none⟩) 4 xdc) (.slice xta xtn xtc) hq
      obtain ⟨j80, j81, j82⟩ := ten_cells hq
      obtain ⟨f80, f81, f82⟩ := ten_frozen hq
      refine wpAnyH_ready (rs := [8]) (by kernel_rfl) (by simp) ?_
      refine AllReadyH.cons rfl (fun K hK => ?_) AllReadyH.nil
      go_simp
      have o8 : (((v2.setCell ⟨w0.heap.size + 1, 0, none⟩ (.int .i64 tx)).setCell ⟨w0.heap.size + 1, 1, none⟩ (.slice (some ⟨bx', ox, none⟩) 4 xdc)).setCell ⟨w0.heap.size + 1, 2, none⟩ (.slice xta xtn xtc)).heap[w0.heap.size]? = _ := (sg8.block (w0.heap.size) (Array.getElem?_eq_some_iff.1 hp2).1 (by simp)).trans hp2
      have y8 := grown_trans_row g2 sg8 (fun r e => by cases e; omega)
      generalize (((v2.setCell ⟨w0.heap.size + 1, 0, none⟩ (.int .i64 tx)).setCell ⟨w0.heap.size + 1, 1, none⟩ (.slice (some ⟨bx', ox, none⟩) 4 xdc)).setCell ⟨w0.heap.size + 1, 2, none⟩ (.slice xta xtn xtc)) = v3 at st8 sg8 o8 y8 ⊢
      refine hK.out _ _ y8 (fun hHeld => ?_)
      clear hK K j80 f80 j81 f81 j82 f82
      try simp only [Act.put]
      obtain ⟨st9, sg9⟩ := store3t (.int .i64 ty) (.slice (some ⟨by', oy, none⟩) 4 ydc) (.slice yta ytn ytc) o8
      obtain ⟨j90, j91, j92⟩ := ten_cells o8
      obtain ⟨f90, f91, f92⟩ := ten_frozen o8
      refine wpAnyH_ready (rs := [9]) (by kernel_rfl) (by simp) ?_
      refine AllReadyH.cons rfl (fun K hK => ?_) AllReadyH.nil
      go_simp
      have o9 : (((v3.setCell ⟨w0.heap.size, 0, none⟩ (.int .i64 ty)).setCell ⟨w0.heap.size, 1, none⟩ (.slice (some ⟨by', oy, none⟩) 4 ydc)).setCell ⟨w0.heap.size, 2, none⟩ (.slice yta ytn ytc)).heap[w0.heap.size + 1]? = _ := (sg9.block (w0.heap.size + 1) (Array.getElem?_eq_some_iff.1 st8).1 (by simp)).trans st8
      have y9 := grown_trans_row y8 sg9 (fun r e => by cases e; omega)
      generalize (((v3.setCell ⟨w0.heap.size, 0, none⟩ (.int .i64 ty)).setCell ⟨w0.heap.size, 1, none⟩ (.slice (some ⟨by', oy, none⟩) 4 ydc)).setCell ⟨w0.heap.size, 2, none⟩ (.slice yta ytn ytc)) = v4 at st9 sg9 o9 y9 ⊢
      refine hK.out _ _ y9 (fun hHeld => ?_)
      clear hK K j90 f90 j91 f91 j92 f92
      try simp only [Act.put]
      refine wpAnyH_done (by kernel_rfl) ?_ _
      clear hp hp2 hq g1 gq g2 z1 sg8 sg9
      go_simp
      go_wp2_with fail
      go_meet
      exact ⟨y9, w0.heap.size + 1, w0.heap.size, rfl, rfl, o9, st9⟩
  case rest =>
    obtain ⟨hg1, b7, b8, rfl, rfl, hb7, hb8⟩ := hcut
    obtain ⟨w1, hw1⟩ : ∃ v, v = wc := ⟨_, rfl⟩
    rw [← hw1] at hg1 hb7 hb8 ⊢
    clear hw1 t0 t1 t2 s0 s1 s2
    have G1 := hide hg1
    have B7 := hide hb7
    have B8 := hide hb8
    obtain ⟨k0, k1, k2⟩ := ten_cells hb7
    obtain ⟨m0, m1, m2⟩ := ten_cells hb8
    go_upto_region 2 with fail
    go_cut [9, 10] from 25 to 28 (fun t9 t10 wx => w1.grownBy wx none ∧ ∃ (B1 B2 b10 : Nat) (q1 q2 : List Sl), t9 = .slice (some ⟨B1, 0, none⟩) 1 1 ∧ t10 = .pointer (some ⟨b10, 0, none⟩) ∧ wx.heap[b10]? = some (.cells #[.slice (some ⟨B2, 0, none⟩) 1 1] 85 (0, 0)) ∧ Rws wx B1 0 q1 [xs] ∧ Rws wx B2 0 q2 [ys])
    case first =>
      refine wp_region_held_drew (S := fun w' => w1.grownBy w' none) (by kernel_rfl) (grown_drew (grown_refl _)) (fun hHeld => ?_)
      refine wpAnyH_take (i := 0) (v := ?_) rfl (by kernel_rfl) (by kernel_rfl) (by kernel_rfl) (fun _ _ _ h => h) (Or.inl ⟨by kernel_rfl, ?_⟩) (by assumption) ?_
      rotate_left 1
      · (intro wS hSw; have c0 := cell_still k0 hSw; have c1 := cell_still k1 hSw; have c2 := cell_still k2 hSw; go_simp; (try with_reducible rfl))
      try simp only [Act.put]
      refine wpAnyH_take (i := 2) (v := ?_) rfl (by kernel_rfl) (by kernel_rfl) (by kernel_rfl) (fun _ _ _ h => h) (Or.inl ⟨by kernel_rfl, ?_⟩) (by assumption) ?_
      rotate_left 1
      · (intro wS hSw; have c0 := cell_still m0 hSw; have c1 := cell_still m1 hSw; have c2 := cell_still m2 hSw; go_simp; (try with_reducible rfl))
      try simp only [Act.put]
      have g_ : w1.grownBy w1.drew none := grown_drew (grown_refl _)
      generalize w1.drew = v_ at g_ hHeld ⊢
      refine wpAnyH_ready (rs := [1, 4]) (by kernel_rfl) (by simp) ?_
      refine AllReadyH.cons rfl (fun K hK => ?_) (AllReadyH.cons rfl (fun K hK => ?_) AllReadyH.nil)
      · go_simp
        refine (II0.out v_ (grown_trans G0.out (grown_trans G1.out g_))).mono ?_
        rintro e v_1 ⟨B1, q1, rfl, r1, hB1, hg1⟩
        rw [imgs_one HLX.out] at r1
        have g_1 := grown_trans g_ hg1
        refine hK.out _ _ g_1 (fun hHeld => ?_)
        clear hK K
        try simp only [Act.put]
        refine wpAnyH_ready (rs := [3, 4]) (by kernel_rfl) (by simp) ?_
        refine AllReadyH.cons rfl (fun K hK => ?_) (AllReadyH.cons rfl (fun K hK => ?_) AllReadyH.nil)
        · go_simp
          refine (II1.out v_1 (grown_trans G0.out (grown_trans G1.out g_1))).mono ?_
          rintro e v_13 ⟨B2, q2, rfl, r3, hB3, hg3⟩
          rw [imgs_one HLY.out] at r3
          have g_13 := grown_trans g_1 hg3
          have r1 := r1.more hg3
          refine hK.out _ _ g_13 (fun hHeld => ?_)
          clear hK K
          try simp only [Act.put]
          refine wpAnyH_ready (rs := [4]) (by kernel_rfl) (by simp) ?_
          refine AllReadyH.cons rfl (fun K hK => ?_) AllReadyH.nil
          go_simp
          have l4 := g_13.size
          have h4 := heap_alloc_new v_13 (.cells #[.slice none 0 0] 85)
          have gn := grown_new v_13 (.cells #[.slice none 0 0] 85)
          have n1 : B1 ≠ v_13.heap.size := fun e9 => by have h9 := r1.lt; omega
          have r1 := r1.more gn
          have n3 : B2 ≠ v_13.heap.size := fun e9 => by have h9 := r3.lt; omega
          have r3 := r3.more gn
          generalize v_13.alloc (.cells #[.slice none 0 0] 85) = v_134 at h4 gn r1 r3 ⊢
          generalize v_13.heap.size = b4 at h4 n1 n3 l4 ⊢
          have g_134 := grown_trans g_13 gn
          refine hK.out _ _ g_134 (fun hHeld => ?_)
          clear hK K
          try simp only [Act.put]
          refine wpAnyH_take (i := 5) (v := ?_) rfl (by kernel_rfl) (by kernel_rfl) (by kernel_rfl) (fun _ _ _ h => h) (Or.inl ⟨by kernel_rfl, ?_⟩) (by assumption) ?_
          rotate_left 1
          · (intro wS hSw; go_simp; (try with_reducible rfl))
          try simp only [Act.put]
          have c4 := one_cell h4
          have f4 := row_frozen h4 0
          refine wpAnyH_ready (rs := [6]) (by kernel_rfl) (by simp) ?_
          refine AllReadyH.cons rfl (fun K hK => ?_) AllReadyH.nil
          go_simp
          have x6 : v_134.grownBy (v_134.setCell ⟨b4, 0, none⟩ (.slice (some ⟨B2, 0, none⟩) 1 1)) (some b4) := put_grown _ _ _ _
          have s6 : (v_134.setCell ⟨b4, 0, none⟩ (.slice (some ⟨B2, 0, none⟩) 1 1)).heap[b4]? = some (.cells #[.slice (some ⟨B2, 0, none⟩) 1 1] 85 (0, 0)) := Boxed.set (v := .slice none 0 0) _ h4
          have r1 := r1.putAway h4 n1 x6
          have r3 := r3.putAway h4 n3 x6
          have y6 := grown_trans_row g_134 x6 (fun r e => by cases e; exact l4)
          generalize v_134.setCell ⟨b4, 0, none⟩ (.slice (some ⟨B2, 0, none⟩) 1 1) = v6 at x6 s6 r1 r3 y6 ⊢
          refine hK.out _ _ y6 (fun hHeld => ?_)
          clear hK K
          try simp only [Act.put]
          refine wpAnyH_done (by kernel_rfl) ?_ _
          clear c4 f4 x6 h4 hHeld
          go_simp
          go_wp2_with fail
          go_meet
          exact ⟨y6, B1, B2, b4, q1, q2, rfl, rfl, s6, r1, r3⟩
        · go_simp
          have l4 := g_1.size
          have h4 := heap_alloc_new v_1 (.cells #[.slice none 0 0] 85)
          have gn := grown_new v_1 (.cells #[.slice none 0 0] 85)
          have n1 : B1 ≠ v_1.heap.size := fun e9 => by have h9 := r1.lt; omega
          have r1 := r1.more gn
          generalize v_1.alloc (.cells #[.slice none 0 0] 85) = v_14 at h4 gn r1 ⊢
          generalize v_1.heap.size = b4 at h4 n1 l4 ⊢
          have g_14 := grown_trans g_1 gn
          refine hK.out _ _ g_14 (fun hHeld => ?_)
          clear hK K
          try simp only [Act.put]
          refine wpAnyH_ready (rs := [3]) (by kernel_rfl) (by simp) ?_
          refine AllReadyH.cons rfl (fun K hK => ?_) AllReadyH.nil
          go_simp
          refine (II1.out v_14 (grown_trans G0.out (grown_trans G1.out g_14))).mono ?_
          rintro e v_143 ⟨B2, q2, rfl, r3, hB3, hg3⟩
          rw [imgs_one HLY.out] at r3
          have g_143 := grown_trans g_14 hg3
          have r1 := r1.more hg3
          have n3 : B2 ≠ b4 := fun e9 => by have h9 := (Array.getElem?_eq_some_iff.1 h4).1; omega
          have h4 := box_kept h4 hg3
          refine hK.out _ _ g_143 (fun hHeld => ?_)
          clear hK K
          try simp only [Act.put]
          refine wpAnyH_take (i := 5) (v := ?_) rfl (by kernel_rfl) (by kernel_rfl) (by kernel_rfl) (fun _ _ _ h => h) (Or.inl ⟨by kernel_rfl, ?_⟩) (by assumption) ?_
          rotate_left 1
          · (intro wS hSw; go_simp; (try with_reducible rfl))
          try simp only [Act.put]
          have c4 := one_cell h4
          have f4 := row_frozen h4 0
          refine wpAnyH_ready (rs := [6]) (by kernel_rfl) (by simp) ?_
          refine AllReadyH.cons rfl (fun K hK => ?_) AllReadyH.nil
          go_simp
          have x6 : v_143.grownBy (v_143.setCell ⟨b4, 0, none⟩ (.slice (some ⟨B2, 0, none⟩) 1 1)) (some b4) := put_grown _ _ _ _
          have s6 : (v_143.setCell ⟨b4, 0, none⟩ (.slice (some ⟨B2, 0, none⟩) 1 1)).heap[b4]? = some (.cells #[.slice (some ⟨B2, 0, none⟩) 1 1] 85 (0, 0)) := Boxed.set (v := .slice none 0 0) _ h4
          have r1 := r1.putAway h4 n1 x6
          have r3 := r3.putAway h4 n3 x6
          have y6 := grown_trans_row g_143 x6 (fun r e => by cases e; exact l4)
          generalize v_143.setCell ⟨b4, 0, none⟩ (.slice (some ⟨B2, 0, none⟩) 1 1) = v6 at x6 s6 r1 r3 y6 ⊢
          refine hK.out _ _ y6 (fun hHeld => ?_)
          clear hK K
          try simp only [Act.put]
          refine wpAnyH_done (by kernel_rfl) ?_ _
          clear c4 f4 x6 h4 hHeld
          go_simp
          go_wp2_with fail
          go_meet
          exact ⟨y6, B1, B2, b4, q1, q2, rfl, rfl, s6, r1, r3⟩
      · go_simp
        have l4 := g_.size
        have h4 := heap_alloc_new v_ (.cells #[.slice none 0 0] 85)
        have gn := grown_new v_ (.cells #[.slice none 0 0] 85)
        generalize v_.alloc (.cells #[.slice none 0 0] 85) = v_4 at h4 gn  ⊢
        generalize v_.heap.size = b4 at h4  l4 ⊢
        have g_4 := grown_trans g_ gn
        refine hK.out _ _ g_4 (fun hHeld => ?_)
        clear hK K
        try simp only [Act.put]
        refine wpAnyH_ready (rs := [1]) (by kernel_rfl) (by simp) ?_
        refine AllReadyH.cons rfl (fun K hK => ?_) AllReadyH.nil
        go_simp
        refine (II0.out v_4 (grown_trans G0.out (grown_trans G1.out g_4))).mono ?_
        rintro e v_41 ⟨B1, q1, rfl, r1, hB1, hg1⟩
        rw [imgs_one HLX.out] at r1
        have g_41 := grown_trans g_4 hg1
        have n1 : B1 ≠ b4 := fun e9 => by have h9 := (Array.getElem?_eq_some_iff.1 h4).1; omega
        have h4 := box_kept h4 hg1
        refine hK.out _ _ g_41 (fun hHeld => ?_)
        clear hK K
        try simp only [Act.put]
        refine wpAnyH_ready (rs := [3]) (by kernel_rfl) (by simp) ?_
        refine AllReadyH.cons rfl (fun K hK => ?_) AllReadyH.nil
        go_simp
        refine (II1.out v_41 (grown_trans G0.out (grown_trans G1.out g_41))).mono ?_
        rintro e v_413 ⟨B2, q2, rfl, r3, hB3, hg3⟩
        rw [imgs_one HLY.out] at r3
        have g_413 := grown_trans g_41 hg3
        have r1 := r1.more hg3
        have n3 : B2 ≠ b4 := fun e9 => by have h9 := (Array.getElem?_eq_some_iff.1 h4).1; omega
        have h4 := box_kept h4 hg3
        refine hK.out _ _ g_413 (fun hHeld => ?_)
        clear hK K
        try simp only [Act.put]
        refine wpAnyH_take (i := 5) (v := ?_) rfl (by kernel_rfl) (by kernel_rfl) (by kernel_rfl) (fun _ _ _ h => h) (Or.inl ⟨by kernel_rfl, ?_⟩) (by assumption) ?_
        rotate_left 1
        · (intro wS hSw; go_simp; (try with_reducible rfl))
        try simp only [Act.put]
        have c4 := one_cell h4
        have f4 := row_frozen h4 0
        refine wpAnyH_ready (rs := [6]) (by kernel_rfl) (by simp) ?_
        refine AllReadyH.cons rfl (fun K hK => ?_) AllReadyH.nil
        go_simp
        have x6 : v_413.grownBy (v_413.setCell ⟨b4, 0, none⟩ (.slice (some ⟨B2, 0, none⟩) 1 1)) (some b4) := put_grown _ _ _ _
        have s6 : (v_413.setCell ⟨b4, 0, none⟩ (.slice (some ⟨B2, 0, none⟩) 1 1)).heap[b4]? = some (.cells #[.slice (some ⟨B2, 0, none⟩) 1 1] 85 (0, 0)) := Boxed.set (v := .slice none 0 0) _ h4
        have r1 := r1.putAway h4 n1 x6
        have r3 := r3.putAway h4 n3 x6
        have y6 := grown_trans_row g_413 x6 (fun r e => by cases e; exact l4)
        generalize v_413.setCell ⟨b4, 0, none⟩ (.slice (some ⟨B2, 0, none⟩) 1 1) = v6 at x6 s6 r1 r3 y6 ⊢
        refine hK.out _ _ y6 (fun hHeld => ?_)
        clear hK K
        try simp only [Act.put]
        refine wpAnyH_done (by kernel_rfl) ?_ _
        clear c4 f4 x6 h4 hHeld
        go_simp
        go_wp2_with fail
        go_meet
        exact ⟨y6, B1, B2, b4, q1, q2, rfl, rfl, s6, r1, r3⟩
    case rest =>
      obtain ⟨hg2, B1, B2, b10, q1, q2, rfl, rfl, hb10, hr1, hr2⟩ := hcut
      obtain ⟨w2, hw2⟩ : ∃ v, v = wc := ⟨_, rfl⟩
      rw [← hw2] at hg2 hb10 hr1 hr2 ⊢
      clear hw2 k0 k1 k2 m0 m1 m2
      have G2 := hide hg2
      have B10 := hide hb10
      have R1 := hide hr1
      have R2 := hide hr2
      obtain ⟨k0, k1, k2⟩ := ten_cells (box_kept B7.out hg2)
      obtain ⟨m0, m1, m2⟩ := ten_cells (box_kept B8.out hg2)
      obtain ⟨n0, n1, n2, n3, n4⟩ := nod_cells (n := ⟨op, nam, ⟨ia, il, ic⟩, out, ⟨ao, al, cap⟩⟩) (box_kept BN.out (grown_trans G1.out hg2))
      have y2 := cell_still Y2.out (grown_trans G1.out hg2)
      have y3 := cell_still Y3.out (grown_trans G1.out hg2)
      clear hg1 hg2 hb7 hb8 hb10 hr1 hr2
      go_upto_region 3 with fail
      go_cut [11] from 29 to 41 (fun t11 wx => w2.grownBy wx none ∧ ∃ b11 : Nat, t11 = .pointer (some ⟨b11, 0, none⟩) ∧ wx.heap[b11]? = some (.cells #[.int .i64 2, .int .i64 2, .int .i64 1, .int .i64 1, .int .i64 0, .int .i64 2, .int .i64 2, .int .i64 1, .int .i64 1, .int .i64 0] 90 (0, 0)))
      case first =>
        refine wp_region_held_drew (S := fun w' => w2.grownBy w' none) (by kernel_rfl) (grown_drew (grown_refl _)) (fun hHeld => ?_)
        refine wpAnyH_take (i := 0) (v := ?_) rfl (by kernel_rfl) (by kernel_rfl) (by kernel_rfl) (fun _ _ _ h => h) (Or.inl ⟨by kernel_rfl, ?_⟩) (by assumption) ?_
        rotate_left 1
        · (intro wS hSw; have c0 := cell_still n0 hSw; have c1 := cell_still n1 hSw; have c2 := cell_still n2 hSw; have c3 := cell_still n3 hSw; have c4 := cell_still n4 hSw; go_simp; (try with_reducible rfl))
        try simp only [Act.put]
        refine wpAnyH_take (i := 1) (v := ?_) rfl (by kernel_rfl) (by kernel_rfl) (by kernel_rfl) (fun _ _ _ h => h) (Or.inl ⟨by kernel_rfl, ?_⟩) (by assumption) ?_
        rotate_left 1
        · (intro wS hSw; go_simp; (try with_reducible rfl))
        try simp only [Act.put]
        refine wpAnyH_take (i := 2) (v := ?_) rfl (by kernel_rfl) (by kernel_rfl) (by kernel_rfl) (fun _ _ _ h => h) (Or.inl ⟨by kernel_rfl, ?_⟩) (by assumption) ?_
        rotate_left 1
        · (intro wS hSw; have c0 := cell_still k1 hSw; go_simp; (try with_reducible rfl))
        try simp only [Act.put]
        refine wpAnyH_take (i := 3) (v := ?_) rfl (by kernel_rfl) (by kernel_rfl) (by kernel_rfl) (fun _ _ _ h => h) (Or.inl ⟨by kernel_rfl, ?_⟩) (by assumption) ?_
        rotate_left 1
        · (intro wS hSw; go_simp; (try with_reducible rfl))
        try simp only [Act.put]
        refine wpAnyH_take (i := 4) (v := ?_) rfl (by kernel_rfl) (by kernel_rfl) (by kernel_rfl) (fun _ _ _ h => h) (Or.inl ⟨by kernel_rfl, ?_⟩) (by assumption) ?_
        rotate_left 1
        · (intro wS hSw; have c0 := cell_still m1 hSw; go_simp; (try with_reducible rfl))
        try simp only [Act.put]
        refine wpAnyH_take (i := 5) (v := ?_) rfl (by kernel_rfl) (by kernel_rfl) (by kernel_rfl) (fun _ _ _ h => h) (Or.inl ⟨by kernel_rfl, ?_⟩) (by assumption) ?_
        rotate_left 1
        · (intro wS hSw; go_simp; (try with_reducible rfl))
        try simp only [Act.put]
        refine wpAnyH_take (i := 6) (v := ?_) rfl (by kernel_rfl) (by kernel_rfl) (by kernel_rfl) (fun _ _ _ h => h) (Or.inl ⟨by kernel_rfl, ?_⟩) (by assumption) ?_
        rotate_left 1
        · (intro wS hSw; have c0 := cell_still y2 hSw; go_simp; (try with_reducible rfl))
        try simp only [Act.put]
        refine wpAnyH_take (i := 7) (v := ?_) rfl (by kernel_rfl) (by kernel_rfl) (by kernel_rfl) (fun _ _ _ h => h) (Or.inl ⟨by kernel_rfl, ?_⟩) (by assumption) ?_
        rotate_left 1
        · (intro wS hSw; go_simp; (try with_reducible rfl))
        try simp only [Act.put]
        refine wpAnyH_take (i := 8) (v := ?_) rfl (by kernel_rfl) (by kernel_rfl) (by kernel_rfl) (fun _ _ _ h => h) (Or.inl ⟨by kernel_rfl, ?_⟩) (by assumption) ?_
        rotate_left 1
        · (intro wS hSw; have c0 := cell_still m1 hSw; go_simp; (try with_reducible rfl))
        try simp only [Act.put]
        refine wpAnyH_take (i := 9) (v := ?_) rfl (by kernel_rfl) (by kernel_rfl) (by kernel_rfl) (fun _ _ _ h => h) (Or.inl ⟨by kernel_rfl, ?_⟩) (by assumption) ?_
        rotate_left 1
        · (intro wS hSw; go_simp; (try with_reducible rfl))
        try simp only [Act.put]
        refine wpAnyH_take (i := 10) (v := ?_) rfl (by kernel_rfl) (by kernel_rfl) (by kernel_rfl) (fun _ _ _ h => h) (Or.inl ⟨by kernel_rfl, ?_⟩) (by assumption) ?_
        rotate_left 1
        · (intro wS hSw; have c0 := cell_still y3 hSw; go_simp; (try with_reducible rfl))
        try simp only [Act.put]
        have g_ : w2.grownBy w2.drew none := grown_drew (grown_refl _)
        generalize w2.drew = v_ at g_ hHeld ⊢
        refine wpAnyH_ready (rs := [11, 13]) (by kernel_rfl) (by simp) ?_
        refine AllReadyH.cons rfl (fun K hK => ?_) (AllReadyH.cons rfl (fun K hK => ?_) AllReadyH.nil)
        · go_simp
          have h11 := heap_alloc_new v_ (.cells #[.int .i64 2, .int .i64 2] 2)
          have gn := grown_new v_ (.cells #[.int .i64 2, .int .i64 2] 2)
          generalize v_.alloc (.cells #[.int .i64 2, .int .i64 2] 2) = v_11 at h11 gn ⊢
          generalize v_.heap.size = b11 at h11 ⊢
          have g_11 := grown_trans g_ gn
          refine hK.out _ _ g_11 (fun hHeld => ?_)
          clear hK K
          try simp only [Act.put]
          refine wpAnyH_ready (rs := [12, 13]) (by kernel_rfl) (by simp) ?_
          refine AllReadyH.cons rfl (fun K hK => ?_) (AllReadyH.cons rfl (fun K hK => ?_) AllReadyH.nil)
          · go_simp
            refine (WI.out v_11 b11 (grown_trans G0.out (grown_trans G1.out (grown_trans G2.out g_11))) h11).mono ?_
            rintro e v_11_12 ⟨rfl, hg12⟩
            have g_11_12 := grown_trans g_11 hg12
            refine hK.out _ _ g_11_12 (fun hHeld => ?_)
            clear hK K
            try simp only [Act.put]
            refine wpAnyH_ready (rs := [13]) (by kernel_rfl) (by simp) ?_
            refine AllReadyH.cons rfl (fun K hK => ?_) AllReadyH.nil
            go_simp
            have l13 := g_11_12.size
            have h13 := heap_alloc_new v_11_12 (.cells #[.int .i64 0, .int .i64 0, .int .i64 0, .int .i64 0, .int .i64 0, .int .i64 0, .int .i64 0, .int .i64 0, .int .i64 0, .int .i64 0] 90)
            have gn := grown_new v_11_12 (.cells #[.int .i64 0, .int .i64 0, .int .i64 0, .int .i64 0, .int .i64 0, .int .i64 0, .int .i64 0, .int .i64 0, .int .i64 0, .int .i64 0] 90)
            generalize v_11_12.alloc (.cells #[.int .i64 0, .int .i64 0, .int .i64 0, .int .i64 0, .int .i64 0, .int .i64 0, .int .i64 0, .int .i64 0, .int .i64 0, .int .i64 0] 90) = v_11_12_13 at h13 gn  ⊢
            generalize v_11_12.heap.size = b13 at h13 l13 ⊢
            have g_11_12_13 := grown_trans g_11_12 gn
            refine hK.out _ _ g_11_12_13 (fun hHeld => ?_)
            clear hK K
            try simp only [Act.put]
            refine wpAnyH_ready (rs := [14]) (by kernel_rfl) (by simp) ?_
            refine AllReadyH.cons rfl (fun K hK => ?_) AllReadyH.nil
            rw [if_pos (by kernel_rfl)]
            refine wp_store_row 90 (.tmp 11) (.tmp 41) rfl b13 #[.int .i64 2, .int .i64 2, .int .i64 1, .int .i64 1, .int .i64 0, .int .i64 2, .int .i64 2, .int .i64 1, .int .i64 1, .int .i64 0] rfl rfl 90 _ h13 winInfo rfl (by simp [Value.oneCell']) ?_
            have s14 := setRow_heap v_11_12_13 b13 _ #[.int .i64 2, .int .i64 2, .int .i64 1, .int .i64 1, .int .i64 0, .int .i64 2, .int .i64 2, .int .i64 1, .int .i64 1, .int .i64 0] _ _ h13
            have y14 := grown_trans_row g_11_12_13 (row_grown v_11_12_13 b13 #[.int .i64 2, .int .i64 2, .int .i64 1, .int .i64 1, .int .i64 0, .int .i64 2, .int .i64 2, .int .i64 1, .int .i64 1, .int .i64 0]) (fun r e => by cases e; exact l13)
            refine hK.out _ _ y14 (fun hHeld => ?_)
            clear hK K
            try simp only [Act.put]
            refine wpAnyH_done (by kernel_rfl) ?_ _
            clear hHeld
            go_simp
            go_wp2_with fail
            go_meet
            exact ⟨y14, b13, rfl, s14⟩
          · go_simp
            have l13 := g_11.size
            have h13 := heap_alloc_new v_11 (.cells #[.int .i64 0, .int .i64 0, .int .i64 0, .int .i64 0, .int .i64 0, .int .i64 0, .int .i64 0, .int .i64 0, .int .i64 0, .int .i64 0] 90)
            have gn := grown_new v_11 (.cells #[.int .i64 0, .int .i64 0, .int .i64 0, .int .i64 0, .int .i64 0, .int .i64 0, .int .i64 0, .int .i64 0, .int .i64 0, .int .i64 0] 90)
            have h11 := box_kept h11 gn
            generalize v_11.alloc (.cells #[.int .i64 0, .int .i64 0, .int .i64 0, .int .i64 0, .int .i64 0, .int .i64 0, .int .i64 0, .int .i64 0, .int .i64 0, .int .i64 0] 90) = v_11_13 at h13 gn h11 ⊢
            generalize v_11.heap.size = b13 at h13 l13 ⊢
            have g_11_13 := grown_trans g_11 gn
            refine hK.out _ _ g_11_13 (fun hHeld => ?_)
            clear hK K
            try simp only [Act.put]
            refine wpAnyH_ready (rs := [12]) (by kernel_rfl) (by simp) ?_
            refine AllReadyH.cons rfl (fun K hK => ?_) AllReadyH.nil
            go_simp
            refine (WI.out v_11_13 b11 (grown_trans G0.out (grown_trans G1.out (grown_trans G2.out g_11_13))) h11).mono ?_
            rintro e v_11_13_12 ⟨rfl, hg12⟩
            have g_11_13_12 := grown_trans g_11_13 hg12
            have h13 := box_kept h13 hg12
            refine hK.out _ _ g_11_13_12 (fun hHeld => ?_)
            clear hK K
            try simp only [Act.put]
            refine wpAnyH_ready (rs := [14]) (by kernel_rfl) (by simp) ?_
            refine AllReadyH.cons rfl (fun K hK => ?_) AllReadyH.nil
            rw [if_pos (by kernel_rfl)]
            refine wp_store_row 90 (.tmp 11) (.tmp 41) rfl b13 #[.int .i64 2, .int .i64 2, .int .i64 1, .int .i64 1, .int .i64 0, .int .i64 2, .int .i64 2, .int .i64 1, .int .i64 1, .int .i64 0] rfl rfl 90 _ h13 winInfo rfl (by simp [Value.oneCell']) ?_
            have s14 := setRow_heap v_11_13_12 b13 _ #[.int .i64 2, .int .i64 2, .int .i64 1, .int .i64 1, .int .i64 0, .int .i64 2, .int .i64 2, .int .i64 1, .int .i64 1, .int .i64 0] _ _ h13
            have y14 := grown_trans_row g_11_13_12 (row_grown v_11_13_12 b13 #[.int .i64 2, .int .i64 2, .int .i64 1, .int .i64 1, .int .i64 0, .int .i64 2, .int .i64 2, .int .i64 1, .int .i64 1, .int .i64 0]) (fun r e => by cases e; exact l13)
            refine hK.out _ _ y14 (fun hHeld => ?_)
            clear hK K
            try simp only [Act.put]
            refine wpAnyH_done (by kernel_rfl) ?_ _
            clear hHeld
            go_simp
            go_wp2_with fail
            go_meet
            exact ⟨y14, b13, rfl, s14⟩
        · go_simp
          have l13 := g_.size
          have h13 := heap_alloc_new v_ (.cells #[.int .i64 0, .int .i64 0, .int .i64 0, .int .i64 0, .int .i64 0, .int .i64 0, .int .i64 0, .int .i64 0, .int .i64 0, .int .i64 0] 90)
          have gn := grown_new v_ (.cells #[.int .i64 0, .int .i64 0, .int .i64 0, .int .i64 0, .int .i64 0, .int .i64 0, .int .i64 0, .int .i64 0, .int .i64 0, .int .i64 0] 90)
          generalize v_.alloc (.cells #[.int .i64 0, .int .i64 0, .int .i64 0, .int .i64 0, .int .i64 0, .int .i64 0, .int .i64 0, .int .i64 0, .int .i64 0, .int .i64 0] 90) = v_13 at h13 gn  ⊢
          generalize v_.heap.size = b13 at h13 l13 ⊢
          have g_13 := grown_trans g_ gn
          refine hK.out _ _ g_13 (fun hHeld => ?_)
          clear hK K
          try simp only [Act.put]
          refine wpAnyH_ready (rs := [11]) (by kernel_rfl) (by simp) ?_
          refine AllReadyH.cons rfl (fun K hK => ?_) AllReadyH.nil
          go_simp
          have h11 := heap_alloc_new v_13 (.cells #[.int .i64 2, .int .i64 2] 2)
          have gn := grown_new v_13 (.cells #[.int .i64 2, .int .i64 2] 2)
          generalize v_13.alloc (.cells #[.int .i64 2, .int .i64 2] 2) = v_13_11 at h11 gn ⊢
          generalize v_13.heap.size = b11 at h11 ⊢
          have g_13_11 := grown_trans g_13 gn
          have h13 := box_kept h13 gn
          refine hK.out _ _ g_13_11 (fun hHeld => ?_)
          clear hK K
          try simp only [Act.put]
          refine wpAnyH_ready (rs := [12]) (by kernel_rfl) (by simp) ?_
          refine AllReadyH.cons rfl (fun K hK => ?_) AllReadyH.nil
          go_simp
          refine (WI.out v_13_11 b11 (grown_trans G0.out (grown_trans G1.out (grown_trans G2.out g_13_11))) h11).mono ?_
          rintro e v_13_11_12 ⟨rfl, hg12⟩
          have g_13_11_12 := grown_trans g_13_11 hg12
          have h13 := box_kept h13 hg12
          refine hK.out _ _ g_13_11_12 (fun hHeld => ?_)
          clear hK K
          try simp only [Act.put]
          refine wpAnyH_ready (rs := [14]) (by kernel_rfl) (by simp) ?_
          refine AllReadyH.cons rfl (fun K hK => ?_) AllReadyH.nil
          rw [if_pos (by kernel_rfl)]
          refine wp_store_row 90 (.tmp 11) (.tmp 41) rfl b13 #[.int .i64 2, .int .i64 2, .int .i64 1, .int .i64 1, .int .i64 0, .int .i64 2, .int .i64 2, .int .i64 1, .int .i64 1, .int .i64 0] rfl rfl 90 _ h13 winInfo rfl (by simp [Value.oneCell']) ?_
          have s14 := setRow_heap v_13_11_12 b13 _ #[.int .i64 2, .int .i64 2, .int .i64 1, .int .i64 1, .int .i64 0, .int .i64 2, .int .i64 2, .int .i64 1, .int .i64 1, .int .i64 0] _ _ h13
          have y14 := grown_trans_row g_13_11_12 (row_grown v_13_11_12 b13 #[.int .i64 2, .int .i64 2, .int .i64 1, .int .i64 1, .int .i64 0, .int .i64 2, .int .i64 2, .int .i64 1, .int .i64 1, .int .i64 0]) (fun r e => by cases e; exact l13)
          refine hK.out _ _ y14 (fun hHeld => ?_)
          clear hK K
          try simp only [Act.put]
          refine wpAnyH_done (by kernel_rfl) ?_ _
          clear hHeld
          go_simp
          go_wp2_with fail
          go_meet
          exact ⟨y14, b13, rfl, s14⟩
      case rest =>
        obtain ⟨hg3, b11, rfl, hb11⟩ := hcut
        obtain ⟨w3, hw3⟩ : ∃ v, v = wc := ⟨_, rfl⟩
        rw [← hw3] at hg3 hb11 ⊢
        clear hw3 k0 k1 k2 m0 m1 m2 n0 n1 n2 n3 n4 y2 y3
        have G3 := hide (grown_trans G2.out hg3)
        have B11 := hide hb11
        have g13 := grown_trans G1.out G3.out
        obtain ⟨m0, m1, m2⟩ := ten_cells (box_kept B8.out G3.out)
        have y1 := cell_still Y1.out g13
        obtain ⟨w4, hw4⟩ : ∃ w4, w4 = w3.alloc (.cells #[.int .i64 1] 3) := ⟨_, rfl⟩
        have g34 : w3.grownBy w4 none := by rw [hw4]; exact grown_new _ _
        have hb12 := heap_alloc_new w3 (.cells #[.int .i64 1] 3)
        rw [← hw4] at hb12
        have B12 := hide hb12
        have G4 := hide (grown_trans G3.out g34)
        have g14 := grown_trans G1.out G4.out
        have B11 := hide (box_kept B11.out g34)
        have B10 := hide (box_kept B10.out (grown_trans hg3 g34))
        have R1 := hide (R1.out.more (grown_trans hg3 g34))
        have R2 := hide (R2.out.more (grown_trans hg3 g34))
        have B7 := hide (box_kept B7.out G4.out)
        have e0 := cell_still E0.out g14
        have e1 := cell_still E1.out g14
        have X1 := hide (cell_still X1.out g14)
        have G04 := hide (grown_trans G0.out g14)
        obtain ⟨n0, n1, n2, n3, n4⟩ := nod_cells (n := ⟨op, nam, ⟨ia, il, ic⟩, out, ⟨ao, al, cap⟩⟩) (box_kept BN.out g14)
        have LB := hide (Array.getElem?_eq_some_iff.1 hb12).1
        clear hg3 hb11 g13 g34 hb12 g14
        go_upto_region 5 with fail
        rw [← hw4]
        clear hw4 m0 m1 m2 y1
        refine wp_region_held_drew (S := fun w' => w4.grownBy w' none) (by kernel_rfl) (grown_drew (grown_refl _)) (fun hHeld => ?_)
        refine wpAnyH_take (i := 0) (v := ?_) rfl (by kernel_rfl) (by kernel_rfl) (by kernel_rfl) (fun _ _ _ h => h) (Or.inl ⟨by kernel_rfl, ?_⟩) (by assumption) ?_
        rotate_left 1
        · (intro wS hSw; go_simp; (try with_reducible rfl))
        try simp only [Act.put]
        refine wpAnyH_take (i := 1) (v := ?_) rfl (by kernel_rfl) (by kernel_rfl) (by kernel_rfl) (fun _ _ _ h => h) (Or.inl ⟨by kernel_rfl, ?_⟩) (by assumption) ?_
        rotate_left 1
        · (intro wS hSw; go_simp; (try with_reducible rfl))
        try simp only [Act.put]
        refine wpAnyH_take (i := 2) (v := ?_) rfl (by kernel_rfl) (by kernel_rfl) (by kernel_rfl) (fun _ _ _ h => h) (Or.inl ⟨by kernel_rfl, ?_⟩) (by assumption) ?_
        rotate_left 1
        · (intro wS hSw; have c0 := cell_still e1 hSw; go_simp; (try with_reducible rfl))
        try simp only [Act.put]
        refine wpAnyH_take (i := 3) (v := ?_) rfl (by kernel_rfl) (by kernel_rfl) (by kernel_rfl) (fun _ _ _ h => h) (Or.inl ⟨by kernel_rfl, ?_⟩) (by assumption) ?_
        rotate_left 1
        · (intro wS hSw; have c0 := cell_still n0 hSw; have c1 := cell_still n1 hSw; have c2 := cell_still n2 hSw; have c3 := cell_still n3 hSw; have c4 := cell_still n4 hSw; go_simp; (try with_reducible rfl))
        try simp only [Act.put]
        refine wpAnyH_ready (rs := [4]) (by kernel_rfl) (by simp) ?_
        refine AllReadyH.cons rfl (fun K hK => ?_) AllReadyH.nil
        go_simp
        refine (GI.out _ (grown_drew G04.out)).mono ?_
        rintro e w5 ⟨rfl, hg5⟩
        have g5 : w4.grownBy w5 none := ⟨hg5.os, hg5.tape, hg5.output, hg5.size, hg5.block⟩
        refine hK.out _ _ (g5) (fun hHeld => ?_)
        clear hK K
        try simp only [Act.put]
        refine wpAnyH_take (i := 5) (v := .int .i64 1) rfl (by kernel_rfl) (by kernel_rfl) (by kernel_rfl) (fun _ _ _ h => h) (Or.inl ⟨by kernel_rfl, ?_⟩) (by assumption) ?_
        · (intro wS hSw; go_simp; (try rfl))
        try simp only [Act.put]
        refine wpAnyH_take (i := 6) (v := ?_) rfl (by kernel_rfl) (by kernel_rfl) (by kernel_rfl) (fun _ _ _ h => h) (Or.inl ⟨by kernel_rfl, ?_⟩) (by assumption) ?_
        rotate_left 1
        · (intro wS hSw; go_simp; (try with_reducible rfl))
        try simp only [Act.put]
        refine wpAnyH_done (by kernel_rfl) ?_ _
        have E0' := hide e0
        have E1' := hide e1
        have e0 := cell_still e0 g5
        have G5 := hide g5
        clear n0 n1 n2 n3 n4 hHeld hg5 g5 e1
        go_simp
        go_wp2_with fail
        clear e0
        go_loopg [14, 55] 1 (fun gh d i wr => w4.grownBy wr none ∧ ((gh = 1 ∧ i = .int .i64 0 ∧ d = .slice none 0 0) ∨ (gh = 0 ∧ i = .int .i64 1 ∧ ∃ s : Sl, d = .slice s.a s.n s.c ∧ OwnsE wr w4.heap.size s.v [prod4 xs ys])))
        case atStart => exact ⟨G5.out, .inl ⟨rfl, rfl, rfl⟩⟩
        case round =>
          obtain ⟨hg, (⟨rfl, rfl, rfl⟩ | ⟨rfl, rfl, ⟨sa, sn, sc⟩, rfl, ho⟩)⟩ := hrel
          · have HG := hide hg
            have e1 := cell_still E1'.out hg
            obtain ⟨wo, rfl⟩ : ∃ wo, wo = wr := ⟨_, rfl⟩
            clear hg
            go_wp2_with fail
            clear e1
            go_loopg [14, 61] 1 (fun gh d i wr => w4.grownBy wr none ∧ ((gh = 1 ∧ i = .int .i64 0 ∧ d = .slice none 0 0) ∨ (gh = 0 ∧ i = .int .i64 1 ∧ ∃ s : Sl, d = .slice s.a s.n s.c ∧ OwnsE wr w4.heap.size s.v [prod4 xs ys])))
            case atStart => exact ⟨HG.out, .inl ⟨rfl, rfl, rfl⟩⟩
            case round =>
              obtain ⟨hg, (⟨rfl, rfl, rfl⟩ | ⟨rfl, rfl, ⟨sa, sn, sc⟩, rfl, ho⟩)⟩ := hrel
              · obtain ⟨w6, hw6⟩ : ∃ w6, w6 = wr.alloc (.cells #[.int .i64 0] 3) := ⟨_, rfl⟩
                have g6 : wr.grownBy w6 none := by rw [hw6]; exact grown_new _ _
                have hb16 := heap_alloc_new wr (.cells #[.int .i64 0] 3)
                rw [← hw6] at hb16
                have gg := grown_trans hg g6
                have G6 := hide gg
                have B16 := hide hb16
                obtain ⟨k0, k1, k2⟩ := ten_cells (box_kept B7.out gg)
                have x1 := cell_still X1.out gg
                have c16 := one_cell hb16
                have c12 := one_cell (box_kept B12.out gg)
                clear hg g6 gg hb16
                go_upto_region 13 with fail
                rw [← hw6]
                clear hw6
                refine wp_region_held_drew (S := fun w' => w6.grownBy w' none) (by kernel_rfl) (grown_drew (grown_refl _)) (fun hHeld => ?_)
                refine wpAnyH_take (i := 0) (v := ?_) rfl (by kernel_rfl) (by kernel_rfl) (by kernel_rfl) (fun _ _ _ h => h) (Or.inl ⟨by kernel_rfl, ?_⟩) (by assumption) ?_
                rotate_left 1
                · (intro wS hSw; go_simp; (try with_reducible rfl))
                try simp only [Act.put]
                refine wpAnyH_take (i := 1) (v := ?_) rfl (by kernel_rfl) (by kernel_rfl) (by kernel_rfl) (fun _ _ _ h => h) (Or.inl ⟨by kernel_rfl, ?_⟩) (by assumption) ?_
                rotate_left 1
                · (intro wS hSw; go_simp; (try with_reducible rfl))
                try simp only [Act.put]
                refine wpAnyH_take (i := 2) (v := ?_) rfl (by kernel_rfl) (by kernel_rfl) (by kernel_rfl) (fun _ _ _ h => h) (Or.inl ⟨by kernel_rfl, ?_⟩) (by assumption) ?_
                rotate_left 1
                · (intro wS hSw; go_simp; (try with_reducible rfl))
                try simp only [Act.put]
                refine wpAnyH_take (i := 3) (v := ?_) rfl (by kernel_rfl) (by kernel_rfl) (by kernel_rfl) (fun _ _ _ h => h) (Or.inl ⟨by kernel_rfl, ?_⟩) (by assumption) ?_
                rotate_left 1
                · (intro wS hSw; have c0 := cell_still k1 hSw; go_simp; (try with_reducible rfl))
                try simp only [Act.put]
                refine wpAnyH_take (i := 4) (v := ?_) rfl (by kernel_rfl) (by kernel_rfl) (by kernel_rfl) (fun _ _ _ h => h) (Or.inl ⟨by kernel_rfl, ?_⟩) (by assumption) ?_
                rotate_left 1
                · (intro wS hSw; go_simp; (try with_reducible rfl))
                try simp only [Act.put]
                refine wpAnyH_take (i := 5) (v := ?_) rfl (by kernel_rfl) (by kernel_rfl) (by kernel_rfl) (fun _ _ _ h => h) (Or.inl ⟨by kernel_rfl, ?_⟩) (by assumption) ?_
                rotate_left 1
                · (intro wS hSw; have c0 := cell_still x1 hSw; go_simp; (try with_reducible rfl))
                try simp only [Act.put]
                refine wpAnyH_take (i := 6) (v := .int .i64 0) rfl (by kernel_rfl) (by kernel_rfl) (by kernel_rfl) (fun _ _ _ h => h) (Or.inl ⟨by kernel_rfl, ?_⟩) (by assumption) ?_
                · (intro wS hSw; go_simp; (try rfl))
                try simp only [Act.put]
                refine wpAnyH_take (i := 7) (v := ?_) rfl (by kernel_rfl) (by kernel_rfl) (by kernel_rfl) (fun _ _ _ h => h) (Or.inl ⟨by kernel_rfl, ?_⟩) (by assumption) ?_
                rotate_left 1
                · (intro wS hSw; have c0 := cell_still c16 hSw; go_simp; (try with_reducible rfl))
                try simp only [Act.put]
                refine wpAnyH_take (i := 8) (v := ?_) rfl (by kernel_rfl) (by kernel_rfl) (by kernel_rfl) (fun _ _ _ h => h) (Or.inl ⟨by kernel_rfl, ?_⟩) (by assumption) ?_
                rotate_left 1
                · (intro wS hSw; go_simp; (try with_reducible rfl))
                try simp only [Act.put]
                refine wpAnyH_take (i := 9) (v := .int .i64 0) rfl (by kernel_rfl) (by kernel_rfl) (by kernel_rfl) (fun _ _ _ h => h) (Or.inl ⟨by kernel_rfl, ?_⟩) (by assumption) ?_
                · (intro wS hSw; go_simp; (try rfl))
                try simp only [Act.put]
                refine wpAnyH_take (i := 10) (v := ?_) rfl (by kernel_rfl) (by kernel_rfl) (by kernel_rfl) (fun _ _ _ h => h) (Or.inl ⟨by kernel_rfl, ?_⟩) (by assumption) ?_
                rotate_left 1
                · (intro wS hSw; have c0 := cell_still c12 hSw; go_simp; (try with_reducible rfl))
                try simp only [Act.put]
                refine wpAnyH_take (i := 11) (v := .int .i64 0) rfl (by kernel_rfl) (by kernel_rfl) (by kernel_rfl) (fun _ _ _ h => h) (Or.inl ⟨by kernel_rfl, ?_⟩) (by assumption) ?_
                · (intro wS hSw; go_simp; (try rfl))
                try simp only [Act.put]
                refine wpAnyH_take (i := 12) (v := .int .i64 0) rfl (by kernel_rfl) (by kernel_rfl) (by kernel_rfl) (fun _ _ _ h => h) (Or.inl ⟨by kernel_rfl, ?_⟩) (by assumption) ?_
                · (intro wS hSw; go_simp; (try rfl))
                try simp only [Act.put]
                refine wpAnyH_take (i := 13) (v := .slice (some ⟨B1, 0, none⟩) 1 1) rfl (by kernel_rfl) (by kernel_rfl) (by kernel_rfl) (fun _ _ _ h => h) (Or.inl ⟨by kernel_rfl, ?_⟩) (by assumption) ?_
                · (intro wS hSw; go_simp; (try rfl))
                try simp only [Act.put]
                refine wpAnyH_take (i := 14) (v := ?_) rfl (by kernel_rfl) (by kernel_rfl) (by kernel_rfl) (fun _ _ _ h => h) (Or.inl ⟨by kernel_rfl, ?_⟩) (by assumption) ?_
                rotate_left 1
                · (intro wS hSw; have c0 := cell_still c12 hSw; go_simp; (try with_reducible rfl))
                try simp only [Act.put]
                refine wpAnyH_take (i := 15) (v := .slice (some ⟨B1, 0, none⟩) 1 1) rfl (by kernel_rfl) (by kernel_rfl) (by kernel_rfl) (fun _ _ _ h => h) (Or.inl ⟨by kernel_rfl, ?_⟩) (by assumption) ?_
                · (intro wS hSw; go_simp; (try rfl))
                try simp only [Act.put]
                refine wpAnyH_ready (rs := [16]) (by kernel_rfl) (by simp) ?_
                refine AllReadyH.cons rfl (fun K hK => ?_) AllReadyH.nil
                go_simp
                have h17 := heap_alloc_new w6 (.cells #[.slice none 0 0] 85)
                replace h17 : (w6.alloc (.cells #[.slice none 0 0] 85)).drew.heap[w6.heap.size]? = some (.cells #[.slice none 0 0] 85 (0, 0)) := h17
                have g7 : w6.grownBy (w6.alloc (.cells #[.slice none 0 0] 85)).drew none := grown_drew (grown_new _ _)
                generalize (w6.alloc (.cells #[.slice none 0 0] 85)).drew = w7 at h17 g7 ⊢
                refine hK.out _ _ (g7) (fun hHeld => ?_)
                clear hK K
                try simp only [Act.put]
                have c17 := one_cell h17
                have f17 := row_frozen h17 0
                refine wpAnyH_ready (rs := [17]) (by kernel_rfl) (by simp) ?_
                refine AllReadyH.cons rfl (fun K hK => ?_) AllReadyH.nil
                go_simp
                have x8 : w7.grownBy (w7.setCell ⟨w6.heap.size, 0, none⟩ (.slice (some ⟨B1, 0, none⟩) 1 1)) (some w6.heap.size) := put_grown _ _ _ _
                have s8 : (w7.setCell ⟨w6.heap.size, 0, none⟩ (.slice (some ⟨B1, 0, none⟩) 1 1)).heap[w6.heap.size]? = some (.cells #[.slice (some ⟨B1, 0, none⟩) 1 1] 85 (0, 0)) := Boxed.set (v := .slice none 0 0) _ h17
                have g8 := grown_trans_row g7 x8 (fun r e => by cases e; exact Nat.le_refl _)
                generalize w7.setCell ⟨w6.heap.size, 0, none⟩ (.slice (some ⟨B1, 0, none⟩) 1 1) = w8 at x8 s8 g8 ⊢
                refine hK.out _ _ (g8) (fun hHeld => ?_)
                clear hK K
                try simp only [Act.put]
                refine wpAnyH_done (by kernel_rfl) ?_ _
                have gg8 := grown_trans G6.out g8
                have G8 := hide gg8
                have EC : Hid (Calls Tryz.prog 57 #[.agg #[.int .i64 2, .int .i64 2, .int .i64 1, .int .i64 1, .int .i64 0, .int .i64 2, .int .i64 2, .int .i64 1, .int .i64 1, .int .i64 0], .slice (some ⟨bd, od, none⟩) 4 dc, .func (.func 58) #[] #[.pointer (some ⟨w6.heap.size, 0, none⟩), .pointer (some ⟨b10, 0, none⟩), .pointer (some ⟨wr.heap.size, 0, none⟩), .pointer (some ⟨w3.heap.size, 0, none⟩)]] w8 fun e w' => ∃ s : Sl, e = .returned (.slice s.a s.n s.c) ∧ OwnsE w' w8.heap.size s.v [prod4 xs ys] ∧ w8.grownBy w' none) := by
                  have h := each_conv 2 2 2 2 1 1 (fun _ _ => prod4 xs ys) ⟨some ⟨bd, od, none⟩, 4, dc⟩ [1, 1, 1, 1] w6.heap.size b10 wr.heap.size w3.heap.size w8 (HD.out.more (grown_trans G04.out gg8)) rfl rfl rfl (by omega) (by omega) (by omega) (fun _ _ => prod4_rng xs ys) (fun wx p1 p2 p3 h v hx hh hv hp => conv1_one p1 p2 p3 h v _ _ _ _ B1 B2 q1 q2 xs ys wx (box_kept s8 hx) (box_kept B10.out (grown_trans gg8 hx)) (box_kept B16.out (grown_trans g8 hx)) (box_kept B12.out (grown_trans gg8 hx)) hp hh hv (R1.out.more (grown_trans gg8 hx)) (R2.out.more (grown_trans gg8 hx)) HLX.out HLY.out)
                  exact h
                obtain ⟨j0, j1, j2, j3, j4, j5, j6, j7, j8, j9⟩ := win_cells (H := 2) (kh := 2) (W := 2) (kw := 2) (box_kept B11.out gg8)
                have hmf : ∀ (fn : Fn) (first cap : Array Value) (w : World), (Instr.makeFunc fn first cap).run Tryz.prog w = .ok (.func fn first cap) w := fun _ _ _ _ => rfl
                have ZR := hide (prod4_rng xs ys)
                clear k0 k1 k2 x1 c16 c12 c17 f17 h17 g7 x8 s8 g8 gg8 hHeld
                obtain ⟨z, hz⟩ : ∃ z, z = prod4 xs ys := ⟨_, rfl⟩
                rw [← hz] at EC ZR
                have HZ := hide hz
                clear hz
                go_simp
                go_wp2_with fail
                clear j0 j1 j2 j3 j4 j5 j6 j7 j8 j9
                refine EC.out.mono ?_
                rintro e w9 ⟨⟨ua', un', uc'⟩, rfl, hO9, hg9⟩
                obtain ⟨ug, ⟨uc3, eu⟩, hu2, hu3⟩ := ownsE_cells hO9 (by simp)
                simp only [Sl.v, Value.slice.injEq, List.length_cons, List.length_nil, Nat.zero_add] at eu
                obtain ⟨rfl, rfl, rfl⟩ := eu
                have G9 := hide (grown_trans G8.out hg9)
                have OW9 : Hid (w9.ownsRow w4.heap.size 2 1 (.slice none 0 0) 0 []) := World.ownsRow_nil _ _ _ _
                have sz9 : w4.heap.size ≤ w9.heap.size := G9.out.size
                have HU2 := hide hu2
                have HU3 := hide hu3
                clear hO9 hg9 hu2 hu3 EC hmf
                go_wp2_with (at_builtin; refine wpList_append_lies _ rfl (.tmp 96) (.tmp 97) 23 rfl w4.heap.size 2 i0 (.int .i64 0) 1 8 Tryz.underlying23 hi0 hz0 hz1 hz2 rfl (by decide) (.slice none 0 0) 0 [] rfl (by exact OW9.out) ⟨ug, 0, none⟩ 1 _ ([z].map (Value.int .i64)) rfl rfl HU2.out HU3.out (by omega) (by simp only [maxLen]; omega) (by omega) sz9 _ rfl ?_; intro gg' cap8 wA hown8 hgrow hat hlt8)
                have ST : Hid (w4.grownBy wA none ∧ OwnsE wA w4.heap.size (.slice (some ⟨gg', 0, none⟩) (0 + 1) cap8) [z]) := ⟨grown_trans_row G9.out hgrow (fun r e => (World.ownsRow.lt OW9.out r e).1), ownsE_app (zs := []) (us := [z]) rfl rfl hown8 (by simp) (fun y hy => by cases hy) (fun y hy => by rw [List.mem_singleton.1 hy]; exact ZR.out)⟩
                clear hown8 hgrow hat hlt8
                go_wp2_with fail
                go_roundg 0
                case measure => omega
                case rel => exact ⟨ST.out.1, .inr ⟨rfl, rfl, ⟨_, _, _⟩, rfl, by rw [← HZ.out]; exact ST.out.2⟩⟩
              · have HO := hide ho
                have HG2 := hide hg
                clear ho hg
                go_wp2_with fail
                go_roundg 0
                case measure => omega
                case rel => exact ⟨HG2.out, .inr ⟨rfl, rfl, ⟨_, _, _⟩, rfl, HO.out⟩⟩
          · have HO := hide ho
            have HG := hide hg
            clear ho hg
            go_wp2
            go_ret
            exact ⟨⟨_, _, _⟩, rfl, ⟨row_base_leR HO.out.1 G04.out.size, HO.out.2⟩, grown_trans G04.out HG.out⟩
        

end Go.Proofs.YtkefdkboejimeaaGreatDoor

namespace Go.Proofs.YtkefdkboejimeaaGreatDoor

open Go.RowKit

set_option maxRecDepth 100000 in
set_option maxHeartbeats 8000000 in
theorem made_mxp (n : Nod) (A : At) (hop : n.op = ⟨#[77, 97, 120, 80, 111, 111, 108]⟩) (u : Sl) (T0 : Ten) (D0 D1 H W kh kw oh ow N : Nat) (xs : List Int) (nam0 : ByteArray) (vty : Int) (dv : Sl) (w : World) (hno : NodeOk w n A) (hv : TensIn w u.v [(T0, ([(D0 : Int), D1, H, W], xs))]) (hd : IsInts w dv.v [(D0 : Int), D1, oh, ow]) (hker : A.ints ⟨#[107, 101, 114, 110, 101, 108, 95, 115, 104, 97, 112, 101]⟩ [(H : Int), W] = [(kh : Int), kw]) (hs : A.ints ⟨#[115, 116, 114, 105, 100, 101, 115]⟩ [1, 1] = [1, 1]) (hl : A.ints ⟨#[100, 105, 108, 97, 116, 105, 111, 110, 115]⟩ [1, 1] = [1, 1]) (hp : A.ints ⟨#[112, 97, 100, 115]⟩ [0, 0, 0, 0] = [0, 0, 0, 0]) (hN : N = D0 * D1) (hxl : xs.length = N * (H * W)) (n1 : 1 ≤ N) (e1 : oh + kh = H + 1) (e2 : ow + kw = W + 1) (k1 : 1 ≤ kh) (k2 : 1 ≤ kw) (o1 : 1 ≤ oh) (o2 : 1 ≤ ow) (hb : xs.length ≤ 65536) :
    Calls Tryz.prog 15 #[nval n, .slice u.a u.n u.c, .agg #[.string nam0, .int .i64 vty, .slice dv.a dv.n dv.c]] w (EvQ w (.ok (poolL (mostL 1) xs N H W kh kw oh ow))) := by
  obtain ⟨za, zn, zc⟩ := dv
  obtain ⟨xa, xc, ef, p1, p2, p3⟩ := hv.vals.form
  obtain ⟨ua, un, uc⟩ := u
  simp only [Sl.v, List.map_cons, List.map_nil, List.length_cons, List.length_nil, Value.slice.injEq] at ef
  obtain ⟨rfl, rfl, rfl⟩ := ef
  obtain ⟨ub, uo, rfl⟩ := hv.vals.addr (k := 0) (by simp)
  obtain ⟨t0, t1, t2⟩ := hv.at 0 (by simp)
  have HH0 := hide (hv.has (T0, ([(D0 : Int), D1, H, W], xs)) (by simp))
  obtain ⟨tx, ⟨xda, xdn, xdc⟩, ⟨xta, xtn, xtc⟩⟩ := T0
  simp only [List.getElem_cons_zero, Nat.zero_mul, Nat.add_zero] at t0 t1 t2 HH0
  have EC : Hid (∀ wx : World, w.grownBy wx none → Calls Tryz.prog 26 #[nval n, .agg #[.int .i64 tx, .slice xda xdn xdc, .slice xta xtn xtc], .slice za zn zc, .func (.func 27) #[] #[]] wx fun e w' => ∃ s : Sl, e = .returned (.slice s.a s.n s.c) ∧ OwnsE w' wx.heap.size s.v (poolL (mostL 1) xs N H W kh kw oh ow) ∧ wx.grownBy w' none) := fun wx hx => pooled_max n A ⟨tx, ⟨xda, xdn, xdc⟩, ⟨xta, xtn, xtc⟩⟩ D0 D1 H W kh kw oh ow N ⟨za, zn, zc⟩ xs wx (hno.more hx) (HH0.out.1.more hx) (HH0.out.2.more hx) (hd.more hx) hker hs hl hp hN hxl n1 e1 e2 k1 k2 o1 o2 hb
  obtain ⟨R0, hR0⟩ : ∃ R0, R0 = poolL (mostL 1) xs N H W kh kw oh ow := ⟨_, rfl⟩
  simp only
  rw [← hR0] at EC ⊢
  obtain ⟨op, nam, ⟨ia, il, ic⟩, out, ⟨ao, al, cap⟩⟩ := n
  simp only at hop
  subst hop
  unfold nval at EC ⊢
  simp only at EC ⊢
  obtain ⟨w0, hw0⟩ : ∃ w0, w0 = (w.alloc (.cells #[.string ⟨#[77, 97, 120, 80, 111, 111, 108]⟩, .string nam, .slice ia il ic, .string out, .slice ao al cap] 35)).alloc (.cells #[.string nam0, .int .i64 vty, .slice za zn zc] 53) := ⟨_, rfl⟩
  have g0 : w.grownBy w0 none := by rw [hw0]; exact grown_trans (grown_new _ _) (grown_new _ _)
  have hbx := two_boxes w (.cells #[.string ⟨#[77, 97, 120, 80, 111, 111, 108]⟩, .string nam, .slice ia il ic, .string out, .slice ao al cap] 35) (.cells #[.string nam0, .int .i64 vty, .slice za zn zc] 53)
  rw [← hw0] at hbx
  obtain ⟨n0, n1', n2, n3, n4⟩ := nod_cells (n := ⟨⟨#[77, 97, 120, 80, 111, 111, 108]⟩, nam, ⟨ia, il, ic⟩, out, ⟨ao, al, cap⟩⟩) hbx.1
  obtain ⟨v0, v1, v2⟩ := ten_cells hbx.2
  have t0 := cell_still t0 g0
  have t1 := cell_still t1 g0
  have t2 := cell_still t2 g0
  have G0 := hide g0
  clear hbx hv hno hd hker hs hl hp hN hxl n1 e1 e2 k1 k2 o1 o2 hb g0 p1 p2 p3 hR0 HH0 v0 v1
  rw [hw0] at n0
  go_enter Tryz.func15, Tryz.ntmps15
  go_upto_region 5 with fail
  rw [← hw0]
  rw [← hw0] at n0
  clear hw0
  refine wp_region_held_drew (S := fun w' => w0.grownBy w' none) (by kernel_rfl) (grown_drew (grown_refl _)) (fun hHeld => ?_)
  refine wpAnyH_take (i := 0) (v := ?_) rfl (by kernel_rfl) (by kernel_rfl) (by kernel_rfl) (fun _ _ _ h => h) (Or.inl ⟨by kernel_rfl, ?_⟩) (by assumption) ?_
  rotate_left 1
  · (intro wS hSw; have c0 := cell_still n0 hSw; have c1 := cell_still n1' hSw; have c2 := cell_still n2 hSw; have c3 := cell_still n3 hSw; have c4 := cell_still n4 hSw; go_simp; (try with_reducible rfl))
  try simp only [Act.put]
  refine wpAnyH_take (i := 1) (v := ?_) rfl (by kernel_rfl) (by kernel_rfl) (by kernel_rfl) (fun _ _ _ h => h) (Or.inl ⟨by kernel_rfl, ?_⟩) (by assumption) ?_
  rotate_left 1
  · (intro wS hSw; go_simp; (try with_reducible rfl))
  try simp only [Act.put]
  refine wpAnyH_take (i := 2) (v := ?_) rfl (by kernel_rfl) (by kernel_rfl) (by kernel_rfl) (fun _ _ _ h => h) (Or.inl ⟨by kernel_rfl, ?_⟩) (by assumption) ?_
  rotate_left 1
  · (intro wS hSw; go_simp; (try with_reducible rfl))
  try simp only [Act.put]
  refine wpAnyH_take (i := 3) (v := ?_) rfl (by kernel_rfl) (by kernel_rfl) (by kernel_rfl) (fun _ _ _ h => h) (Or.inl ⟨by kernel_rfl, ?_⟩) (by assumption) ?_
  rotate_left 1
  · (intro wS hSw; have c0 := cell_still t0 hSw; have c1 := cell_still t1 hSw; have c2 := cell_still t2 hSw; go_simp; (try with_reducible rfl))
  try simp only [Act.put]
  refine wpAnyH_take (i := 4) (v := ?_) rfl (by kernel_rfl) (by kernel_rfl) (by kernel_rfl) (fun _ _ _ h => h) (Or.inl ⟨by kernel_rfl, ?_⟩) (by assumption) ?_
  rotate_left 1
  · (intro wS hSw; go_simp; (try with_reducible rfl))
  try simp only [Act.put]
  refine wpAnyH_take (i := 5) (v := ?_) rfl (by kernel_rfl) (by kernel_rfl) (by kernel_rfl) (fun _ _ _ h => h) (Or.inl ⟨by kernel_rfl, ?_⟩) (by assumption) ?_
  rotate_left 1
  · (intro wS hSw; have c0 := cell_still v2 hSw; go_simp; (try with_reducible rfl))
  try simp only [Act.put]
  refine wpAnyH_ready (rs := [6]) (by kernel_rfl) (by simp) ?_
  refine AllReadyH.cons rfl (fun K hK => ?_) AllReadyH.nil
  go_simp
  refine (EC.out _ (grown_trans G0.out (grown_drew (grown_refl _)))).mono ?_
  rintro e w2 ⟨⟨sa, sn, sc⟩, rfl, os, hg2⟩
  have g2 : w0.grownBy w2 none := ⟨hg2.os, hg2.tape, hg2.output, hg2.size, hg2.block⟩
  refine hK.out _ _ (g2) (fun hHeld => ?_)
  clear hK K
  try simp only
  refine wpAnyH_take (i := 7) (v := ?_) rfl (by kernel_rfl) (by kernel_rfl) (by kernel_rfl) (fun _ _ _ h => h) (Or.inl ⟨by kernel_rfl, ?_⟩) (by assumption) ?_
  rotate_left 1
  · (intro wS hSw; go_simp; (try with_reducible rfl))
  try simp only [Act.put]
  refine wpAnyH_take (i := 8) (v := ?_) rfl (by kernel_rfl) (by kernel_rfl) (by kernel_rfl) (fun _ _ _ h => h) (Or.inl ⟨by kernel_rfl, ?_⟩) (by assumption) ?_
  rotate_left 1
  · (intro wS hSw; go_simp; (try with_reducible rfl))
  try simp only [Act.put]
  refine wpAnyH_done (by kernel_rfl) ?_ _
  have hz := G0.out.size
  have OS := hide (show OwnsE w2 w.heap.size (Sl.v ⟨sa, sn, sc⟩) R0 from ⟨row_base_leR os.1 hz, os.2⟩)
  have G2 := hide (grown_trans G0.out g2)
  clear os hg2 g2 hz
  go_simp
  go_wp2
  go_ret2
  exact ⟨G2.out, ⟨sa, sn, sc⟩, rfl, OS.out⟩

set_option maxRecDepth 100000 in
set_option maxHeartbeats 8000000 in
theorem made_cv (n : Nod) (A : At) (hop : n.op = ⟨#[67, 111, 110, 118]⟩) (u : Sl) (T0 T1 : Ten) (xs ys : List Int) (nam0 : ByteArray) (vty : Int) (dv : Sl) (w : World) (hno : NodeOk w n A) (hv : TensIn w u.v [(T0, ([1, 1, 2, 2], xs)), (T1, ([1, 1, 2, 2], ys))]) (hd : IsInts w dv.v [1, 1, 1, 1]) (lx : xs.length = 4) (ly : ys.length = 4) (hgr : A.int ⟨#[103, 114, 111, 117, 112]⟩ 1 = 1) (hs : A.ints ⟨#[115, 116, 114, 105, 100, 101, 115]⟩ [1, 1] = [1, 1]) (hl : A.ints ⟨#[100, 105, 108, 97, 116, 105, 111, 110, 115]⟩ [1, 1] = [1, 1]) (hp : A.ints ⟨#[112, 97, 100, 115]⟩ [0, 0, 0, 0] = [0, 0, 0, 0]) :
    Calls Tryz.prog 15 #[nval n, .slice u.a u.n u.c, .agg #[.string nam0, .int .i64 vty, .slice dv.a dv.n dv.c]] w (EvQ w (.ok [prod4 xs ys])) := by
  obtain ⟨za, zn, zc⟩ := dv
  have EC : Hid (∀ wx : World, w.grownBy wx none → Calls Tryz.prog 25 #[nval n, .slice u.a u.n u.c, .slice za zn zc] wx fun e w' => ∃ s : Sl, e = .returned (.slice s.a s.n s.c) ∧ OwnsE w' wx.heap.size s.v [prod4 xs ys] ∧ wx.grownBy w' none) := fun wx hx => convolved_one n A u T0 T1 xs ys ⟨za, zn, zc⟩ wx (hno.more hx) (hv.more hx) (hd.more hx) lx ly hgr hs hl hp
  obtain ⟨R0, hR0⟩ : ∃ R0, R0 = [prod4 xs ys] := ⟨_, rfl⟩
  simp only
  rw [← hR0] at EC ⊢
  obtain ⟨ua, un, uc⟩ := u
  obtain ⟨op, nam, ⟨ia, il, ic⟩, out, ⟨ao, al, cap⟩⟩ := n
  simp only at hop
  subst hop
  unfold nval at EC ⊢
  simp only at EC ⊢
  obtain ⟨w0, hw0⟩ : ∃ w0, w0 = (w.alloc (.cells #[.string ⟨#[67, 111, 110, 118]⟩, .string nam, .slice ia il ic, .string out, .slice ao al cap] 35)).alloc (.cells #[.string nam0, .int .i64 vty, .slice za zn zc] 53) := ⟨_, rfl⟩
  have g0 : w.grownBy w0 none := by rw [hw0]; exact grown_trans (grown_new _ _) (grown_new _ _)
  have hbx := two_boxes w (.cells #[.string ⟨#[67, 111, 110, 118]⟩, .string nam, .slice ia il ic, .string out, .slice ao al cap] 35) (.cells #[.string nam0, .int .i64 vty, .slice za zn zc] 53)
  rw [← hw0] at hbx
  obtain ⟨n0, n1, n2, n3, n4⟩ := nod_cells (n := ⟨⟨#[67, 111, 110, 118]⟩, nam, ⟨ia, il, ic⟩, out, ⟨ao, al, cap⟩⟩) hbx.1
  obtain ⟨v0, v1, v2⟩ := ten_cells hbx.2
  have EC2 := hide (EC.out w0 g0)
  have G0 := hide g0
  clear hbx hv hno hd lx ly hgr hs hl hp g0 hR0 v0 v1 EC
  rw [hw0] at n0 n1 n2 n3 n4 v2
  go_enter Tryz.func15, Tryz.ntmps15
  go_wp2_with fail
  rw [← hw0]
  clear hw0 n0 n1 n2 n3 n4 v2
  refine EC2.out.mono ?_
  rintro e w2 ⟨⟨sa, sn, sc⟩, rfl, os, g2⟩
  have hz := G0.out.size
  have OS := hide (show OwnsE w2 w.heap.size (Sl.v ⟨sa, sn, sc⟩) R0 from ⟨row_base_leR os.1 hz, os.2⟩)
  have G2 := hide (grown_trans G0.out g2)
  clear os g2 hz
  go_wp2
  go_ret2
  exact ⟨G2.out, ⟨sa, sn, sc⟩, rfl, OS.out⟩

end Go.Proofs.YtkefdkboejimeaaGreatDoor
