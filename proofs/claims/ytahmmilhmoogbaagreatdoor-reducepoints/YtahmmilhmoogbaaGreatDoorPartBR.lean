/- Joined texts: RdMade. -/
import Derived.Test.YtahmmilhmoogbaaGreatDoorPartBQ
import Derived.Deep.RegionHeld3
namespace Go.Proofs.YtahmmilhmoogbaaGreatDoor

open Go.RowKit

theorem rng0 : Rng 0 := by unfold Rng; omega

theorem rng_w64 (n : Int) : Rng (wrap64 n) := by
  unfold Rng wrap64
  omega

theorem rng_tob (o : Option Nat) (h : ∀ r, o = some r → r < 4294967296) : Rng (Nu.tobO o) := by
  unfold Rng
  cases o with
  | none => simp [Nu.tobO]
  | some r =>
    have := h r rfl
    simp only [Nu.tobO, Nu.tob]
    split
    · omega
    · omega

theorem bits_ltR {op : BinOp} {x y r : Nat} (h : floatBits op .f32 x y = some r) : r < 4294967296 := by
  have := floatBits_wf h
  simpa [Lit.wf] using this

theorem rng_wrapT (t n : Int) (h : Rng n) : Rng (Nu.wrapT t n) := by
  unfold Nu.wrapT
  split
  · exact rng_w64 _
  · exact h

theorem rng_tob1 (b : Nat) (h : b < 4294967296) : Rng (Nu.tob b) := by
  unfold Rng
  simp only [Nu.tob]
  split <;> omega

theorem add_rng (t x y : Int) : Rng (Nu.bin 0 t x y).1 := by
  unfold Nu.bin
  split
  · split
    · exact rng_tob _ fun r h => bits_ltR h
    · split
      · exact rng0
      · exact rng_wrapT _ _ (rng_w64 _)
  · exact rng0

theorem max_rng (t x y : Int) (hx : Rng x) (hy : Rng y) : Rng (Nu.bin 4 t x y).1 := by
  unfold Nu.bin
  split
  · split
    · show Rng (Nu.maxF (Nu.fb x) (Nu.fb y))
      unfold Nu.maxF
      have h1 := rng_tob1 (Nu.fb x) (Nu.fb_lt x)
      have h2 := rng_tob1 (Nu.fb y) (Nu.fb_lt y)
      split
      · unfold Rng; omega
      · exact h2
      · exact h1
      · split
        · exact h2
        · exact h1
    · split
      · exact rng0
      · refine rng_wrapT _ _ ?_
        unfold Nu.maxI
        split
        · exact hy
        · exact hx
  · exact rng0

theorem fold_rng {g : Int → Int → Int} (hg : ∀ x y, Rng x → Rng y → Rng (g x y)) : ∀ (ys : List Int) (z : Int), Rng z → (∀ y ∈ ys, Rng y) → Rng (ys.foldl g z)
  | [], z, h, _ => h
  | y :: ys, z, h, hy => fold_rng hg ys _ (hg z y h (hy y (by simp))) (fun q hq => hy q (by simp [hq]))

theorem arg_bnd (g : Int → Int → Int) : ∀ (ys : List Int) (s : Int × Int × Int), 0 ≤ s.1 → 0 ≤ s.2.1 → s.2.1 ≤ s.1 → 0 ≤ (ys.foldl (argS g) s).2.1 ∧ (ys.foldl (argS g) s).2.1 ≤ s.1 + ys.length
  | [], s, h0, h1, h2 => ⟨h1, by simpa using h2⟩
  | y :: ys, s, h0, h1, h2 => by
    rw [List.foldl_cons]
    have e1 : (argS g s y).1 = s.1 + 1 := rfl
    have e2 : (argS g s y).2.1 = s.1 + 1 ∨ (argS g s y).2.1 = s.2.1 := by
      unfold argS
      by_cases h : g y s.2.2 = 1
      · exact Or.inl (by rw [if_pos h])
      · exact Or.inr (by rw [if_neg h])
    have k := arg_bnd g ys (argS g s y) (by omega) (by omega) (by omega)
    rw [List.length_cons]
    omega

def addL (t : Int) (ys : List Int) : Int := ys.foldl (fun x y => (Nu.bin 0 t x y).1) 0
def mostL (t : Int) (ys : List Int) : Int := maxL (fun x y => (Nu.bin 4 t x y).1) ys
def firstL (t : Int) (ys : List Int) : Int := argL (fun x y => (Nu.bin 11 t x y).1) ys

theorem addL_rng (t : Int) (ys : List Int) : Rng (addL t ys) := by
  unfold addL
  rcases List.eq_nil_or_concat ys with rfl | ⟨l, a, rfl⟩
  · exact rng0
  · rw [List.concat_eq_append, List.foldl_append]
    exact add_rng _ _ _

theorem mostL_rng (t : Int) (ys : List Int) (h : ∀ y ∈ ys, Rng y) : Rng (mostL t ys) := by
  unfold mostL maxL
  refine fold_rng (fun x y => max_rng t x y) _ _ ?_ (fun y hy => h y (List.mem_of_mem_tail hy))
  cases ys with
  | nil => exact rng0
  | cons a l => exact h a (by simp)

theorem firstL_rng (t : Int) (ys : List Int) (hl : ys.length ≤ 65536) : Rng (firstL t ys) := by
  have k := arg_bnd (fun x y => (Nu.bin 11 t x y).1) ys.tail (0, 0, ys.getD 0 0) (Int.le_refl _) (Int.le_refl _) (Int.le_refl _)
  rw [List.length_tail] at k
  simp only at k
  unfold firstL argL Rng
  omega

set_option maxRecDepth 100000 in
set_option maxHeartbeats 8000000 in
theorem made_sum (n : Nod) (A : At) (hop : n.op = ⟨#[82, 101, 100, 117, 99, 101, 83, 117, 109]⟩) (u : Sl) (T0 : Ten) (x xs : List Int) (gone : List Bool) (nam0 : ByteArray) (vty : Int) (dv : Sl) (w : World) (hno : NodeOk w n A) (hv : TensIn w u.v [(T0, (x, xs))]) (hf : Fine x) (hl : (xs.length : Int) = prod x) (hax : axesO x.length (alongP A x.length) (List.replicate x.length false) = some gone) (hgl : gone.length = x.length) :
    Calls Tryz.prog 14 #[nval n, .slice u.a u.n u.c, .agg #[.string nam0, .int .i64 vty, .slice dv.a dv.n dv.c]] w (EvQ w (.ok (eachL (addL T0.ty) xs (plF x gone [0]) (cntF x gone)))) := by
  obtain ⟨za, zn, zc⟩ := dv
  obtain ⟨xa, xc, e1, p1, p2, p3⟩ := hv.vals.form
  obtain ⟨ua, un, uc⟩ := u
  simp only [Sl.v, List.map_cons, List.map_nil, List.length_cons, List.length_nil, Value.slice.injEq] at e1
  obtain ⟨rfl, rfl, rfl⟩ := e1
  obtain ⟨ub, uo, rfl⟩ := hv.vals.addr (k := 0) (by simp)
  obtain ⟨t0, t1, t2⟩ := hv.at 0 (by simp)
  have HH0 := hide (hv.has (T0, (x, xs)) (by simp))
  obtain ⟨tx, ⟨xda, xdn, xdc⟩, ⟨xta, xtn, xtc⟩⟩ := T0
  simp only [List.getElem_cons_zero, Nat.zero_mul, Nat.add_zero] at t0 t1 t2 HH0
  have EC : Hid (∀ (wx : World) (b : Nat) , w.grownBy wx none → OneB (fun x y => (Nu.bin 0 tx x y).1) wx b → Calls Tryz.prog 22 #[nval n, .agg #[.int .i64 tx, .slice xda xdn xdc, .slice xta xtn xtc], .func (.func 40) #[] #[.pointer (some ⟨b, 0, none⟩)]] wx fun e w' => ∃ s : Sl, e = .returned (.slice s.a s.n s.c) ∧ OwnsE w' wx.heap.size s.v (eachL (addL tx) xs (plF x gone [0]) (cntF x gone)) ∧ wx.grownBy w' none) := fun wx b hx ob => each_sum n A ⟨tx, ⟨xda, xdn, xdc⟩, ⟨xta, xtn, xtc⟩⟩ x xs gone (addL tx) b wx (hno.more hx) (HH0.out.1.more hx) (HH0.out.2.more hx) hf hl hax hgl (fun ys h1 h2 h3 => addL_rng tx ys) (fun wy u ys h1 h2 h3 h4 => sum1_any _ b u ys wy h2 (ob.more h1))
  obtain ⟨R0, hR0⟩ : ∃ R0, R0 = eachL (addL tx) xs (plF x gone [0]) (cntF x gone) := ⟨_, rfl⟩
  simp only
  rw [← hR0] at EC ⊢
  have SU := hide (fun w => sum_any tx w)
  obtain ⟨op, nam, ⟨ia, il, ic⟩, out, ⟨ao, al, cap⟩⟩ := n
  simp only at hop
  subst hop
  unfold nval at EC ⊢
  simp only at EC ⊢
  obtain ⟨w0, hw0⟩ : ∃ w0, w0 = (w.alloc (.cells #[.string ⟨#[82, 101, 100, 117, 99, 101, 83, 117, 109]⟩, .string nam, .slice ia il ic, .string out, .slice ao al cap] 35)).alloc (.cells #[.string nam0, .int .i64 vty, .slice za zn zc] 57) := ⟨_, rfl⟩
  have g0 : w.grownBy w0 none := by rw [hw0]; exact grown_trans (grown_new _ _) (grown_new _ _)
  have hbx := two_boxes w (.cells #[.string ⟨#[82, 101, 100, 117, 99, 101, 83, 117, 109]⟩, .string nam, .slice ia il ic, .string out, .slice ao al cap] 35) (.cells #[.string nam0, .int .i64 vty, .slice za zn zc] 57)
  rw [← hw0] at hbx
  obtain ⟨n0, n1, n2, n3, n4⟩ := nod_cells (n := ⟨⟨#[82, 101, 100, 117, 99, 101, 83, 117, 109]⟩, nam, ⟨ia, il, ic⟩, out, ⟨ao, al, cap⟩⟩) hbx.1
  have t0 := cell_still t0 g0
  have t1 := cell_still t1 g0
  have t2 := cell_still t2 g0
  have G0 := hide g0
  have i0' : (0 : Int) < 1 := by decide
  clear hbx hv hno hf hl hax hgl g0 p1 p2 p3 hR0 HH0
  rw [hw0] at n0
  go_enter Tryz.func14, Tryz.ntmps14
  go_upto_region 3 with fail
  rw [← hw0]
  rw [← hw0] at n0
  clear hw0
  refine wp_region_held_drew (S := fun w' => w0.grownBy w' none) (by kernel_rfl) (grown_drew (grown_refl _)) (fun hHeld => ?_)
  refine wpAnyH_take (i := 0) (v := ?_) rfl (by kernel_rfl) (by kernel_rfl) (by kernel_rfl) (fun _ _ _ h => h) (Or.inl ⟨by kernel_rfl, ?_⟩) (by assumption) ?_
  rotate_left 1
  · (intro wS hSw; have c0 := cell_still n0 hSw; have c1 := cell_still n1 hSw; have c2 := cell_still n2 hSw; have c3 := cell_still n3 hSw; have c4 := cell_still n4 hSw; go_simp; (try with_reducible rfl))
  try simp only [Act.put]
  refine wpAnyH_take (i := 1) (v := ?_) rfl (by kernel_rfl) (by kernel_rfl) (by kernel_rfl) (fun _ _ _ h => h) (Or.inl ⟨by kernel_rfl, ?_⟩) (by assumption) ?_
  rotate_left 1
  · (intro wS hSw; go_simp; (try with_reducible rfl))
  try simp only [Act.put]
  refine wpAnyH_take (i := 2) (v := ?_) rfl (by kernel_rfl) (by kernel_rfl) (by kernel_rfl) (fun _ _ _ h => h) (Or.inl ⟨by kernel_rfl, ?_⟩) (by assumption) ?_
  rotate_left 1
  · (intro wS hSw; go_simp; (try with_reducible rfl))
  try simp only [Act.put]
  refine wpAnyH_take (i := 3) (v := ?_) rfl (by kernel_rfl) (by kernel_rfl) (by kernel_rfl) (fun _ _ _ h => h) (Or.inl ⟨by kernel_rfl, ?_⟩) (by assumption) ?_
  rotate_left 1
  · (intro wS hSw; have c0 := cell_still t0 hSw; have c1 := cell_still t1 hSw; have c2 := cell_still t2 hSw; go_simp; (try with_reducible rfl))
  try simp only [Act.put]
  refine wpAnyH_take (i := 4) (v := ?_) rfl (by kernel_rfl) (by kernel_rfl) (by kernel_rfl) (fun _ _ _ h => h) (Or.inl ⟨by kernel_rfl, ?_⟩) (by assumption) ?_
  rotate_left 1
  · (intro wS hSw; go_simp; (try with_reducible rfl))
  try simp only [Act.put]
  refine wpAnyH_take (i := 5) (v := ?_) rfl (by kernel_rfl) (by kernel_rfl) (by kernel_rfl) (fun _ _ _ h => h) (Or.inl ⟨by kernel_rfl, ?_⟩) (by assumption) ?_
  rotate_left 1
  · (intro wS hSw; go_simp; (try with_reducible rfl))
  try simp only [Act.put]
  refine wpAnyH_take (i := 6) (v := ?_) rfl (by kernel_rfl) (by kernel_rfl) (by kernel_rfl) (fun _ _ _ h => h) (Or.inl ⟨by kernel_rfl, ?_⟩) (by assumption) ?_
  rotate_left 1
  · (intro wS hSw; go_simp; (try with_reducible rfl))
  try simp only [Act.put]
  refine wpAnyH_take (i := 7) (v := ?_) rfl (by kernel_rfl) (by kernel_rfl) (by kernel_rfl) (fun _ _ _ h => h) (Or.inl ⟨by kernel_rfl, ?_⟩) (by assumption) ?_
  rotate_left 1
  · (intro wS hSw; have c0 := cell_still t0 hSw; go_simp; (try with_reducible rfl))
  try simp only [Act.put]
  have g : w0.grownBy w0.drew none := hHeld
  generalize hv : w0.drew = v at g hHeld ⊢
  clear hv hHeld
  refine wpAnyH_ready (rs := [8]) (by kernel_rfl) (by simp) ?_
  refine AllReadyH.cons rfl (fun K hK => ?_) AllReadyH.nil
  go_simp
  refine (SU.out v).mono ?_
  rintro e w1 ⟨b, rfl, ob, hg1⟩
  have g1 := grown_trans g hg1
  refine hK.out _ _ g1 (fun hHeld => ?_)
  clear hK K hHeld
  try simp only [Act.put]
  refine wpAnyH_ready (rs := [9]) (by kernel_rfl) (by simp) ?_
  refine AllReadyH.cons rfl (fun K hK => ?_) AllReadyH.nil
  go_simp
  refine (EC.out w1 b (grown_trans G0.out g1) ob).mono ?_
  rintro e w2 ⟨⟨sa, sn, sc⟩, rfl, os, hg2⟩
  have g2 := grown_trans g1 hg2
  refine hK.out _ _ g2 (fun hHeld => ?_)
  clear hK K hHeld
  try simp only
  refine wpAnyH_take (i := 10) (v := ?_) rfl (by kernel_rfl) (by kernel_rfl) (by kernel_rfl) (fun _ _ _ h => h) (Or.inl ⟨by kernel_rfl, ?_⟩) (by assumption) ?_
  rotate_left 1
  · (intro wS hSw; go_simp; (try with_reducible rfl))
  try simp only [Act.put]
  refine wpAnyH_take (i := 11) (v := ?_) rfl (by kernel_rfl) (by kernel_rfl) (by kernel_rfl) (fun _ _ _ h => h) (Or.inl ⟨by kernel_rfl, ?_⟩) (by assumption) ?_
  rotate_left 1
  · (intro wS hSw; go_simp; (try with_reducible rfl))
  try simp only [Act.put]
  refine wpAnyH_done (by kernel_rfl) ?_ _
  have hz := Nat.le_trans G0.out.size g1.size
  have OS := hide (show OwnsE w2 w.heap.size (Sl.v ⟨sa, sn, sc⟩) R0 from ⟨row_base_leR os.1 hz, os.2⟩)
  have G2 := hide (grown_trans G0.out g2)
  clear os hg2 g1 g2 hz
  go_simp
  go_wp2
  go_ret2
  exact ⟨G2.out, ⟨sa, sn, sc⟩, rfl, OS.out⟩

set_option maxRecDepth 100000 in
set_option maxHeartbeats 8000000 in
theorem made_max (n : Nod) (A : At) (hop : n.op = ⟨#[82, 101, 100, 117, 99, 101, 77, 97, 120]⟩) (u : Sl) (T0 : Ten) (x xs : List Int) (gone : List Bool) (nam0 : ByteArray) (vty : Int) (dv : Sl) (w : World) (hno : NodeOk w n A) (hv : TensIn w u.v [(T0, (x, xs))]) (hf : Fine x) (hl : (xs.length : Int) = prod x) (hax : axesO x.length (alongP A x.length) (List.replicate x.length false) = some gone) (hgl : gone.length = x.length) :
    Calls Tryz.prog 14 #[nval n, .slice u.a u.n u.c, .agg #[.string nam0, .int .i64 vty, .slice dv.a dv.n dv.c]] w (EvQ w (.ok (eachL (mostL T0.ty) xs (plF x gone [0]) (cntF x gone)))) := by
  obtain ⟨za, zn, zc⟩ := dv
  obtain ⟨xa, xc, e1, p1, p2, p3⟩ := hv.vals.form
  obtain ⟨ua, un, uc⟩ := u
  simp only [Sl.v, List.map_cons, List.map_nil, List.length_cons, List.length_nil, Value.slice.injEq] at e1
  obtain ⟨rfl, rfl, rfl⟩ := e1
  obtain ⟨ub, uo, rfl⟩ := hv.vals.addr (k := 0) (by simp)
  obtain ⟨t0, t1, t2⟩ := hv.at 0 (by simp)
  have HH0 := hide (hv.has (T0, (x, xs)) (by simp))
  obtain ⟨tx, ⟨xda, xdn, xdc⟩, ⟨xta, xtn, xtc⟩⟩ := T0
  simp only [List.getElem_cons_zero, Nat.zero_mul, Nat.add_zero] at t0 t1 t2 HH0
  have EC : Hid (∀ (wx : World) (b : Nat) , w.grownBy wx none → OneB (fun x y => (Nu.bin 4 tx x y).1) wx b → Calls Tryz.prog 22 #[nval n, .agg #[.int .i64 tx, .slice xda xdn xdc, .slice xta xtn xtc], .func (.func 43) #[] #[.pointer (some ⟨b, 0, none⟩)]] wx fun e w' => ∃ s : Sl, e = .returned (.slice s.a s.n s.c) ∧ OwnsE w' wx.heap.size s.v (eachL (mostL tx) xs (plF x gone [0]) (cntF x gone)) ∧ wx.grownBy w' none) := fun wx b hx ob => each_max n A ⟨tx, ⟨xda, xdn, xdc⟩, ⟨xta, xtn, xtc⟩⟩ x xs gone (mostL tx) b wx (hno.more hx) (HH0.out.1.more hx) (HH0.out.2.more hx) hf hl hax hgl (fun ys h1 h2 h3 => mostL_rng tx ys h1) (fun wy u ys h1 h2 h3 h4 => greatest1_any _ b u ys wy h2 h3 (ob.more h1))
  obtain ⟨R0, hR0⟩ : ∃ R0, R0 = eachL (mostL tx) xs (plF x gone [0]) (cntF x gone) := ⟨_, rfl⟩
  simp only
  rw [← hR0] at EC ⊢
  have SU := hide (fun w => greatest_any tx w)
  obtain ⟨op, nam, ⟨ia, il, ic⟩, out, ⟨ao, al, cap⟩⟩ := n
  simp only at hop
  subst hop
  unfold nval at EC ⊢
  simp only at EC ⊢
  obtain ⟨w0, hw0⟩ : ∃ w0, w0 = (w.alloc (.cells #[.string ⟨#[82, 101, 100, 117, 99, 101, 77, 97, 120]⟩, .string nam, .slice ia il ic, .string out, .slice ao al cap] 35)).alloc (.cells #[.string nam0, .int .i64 vty, .slice za zn zc] 57) := ⟨_, rfl⟩
  have g0 : w.grownBy w0 none := by rw [hw0]; exact grown_trans (grown_new _ _) (grown_new _ _)
  have hbx := two_boxes w (.cells #[.string ⟨#[82, 101, 100, 117, 99, 101, 77, 97, 120]⟩, .string nam, .slice ia il ic, .string out, .slice ao al cap] 35) (.cells #[.string nam0, .int .i64 vty, .slice za zn zc] 57)
  rw [← hw0] at hbx
  obtain ⟨n0, n1, n2, n3, n4⟩ := nod_cells (n := ⟨⟨#[82, 101, 100, 117, 99, 101, 77, 97, 120]⟩, nam, ⟨ia, il, ic⟩, out, ⟨ao, al, cap⟩⟩) hbx.1
  have t0 := cell_still t0 g0
  have t1 := cell_still t1 g0
  have t2 := cell_still t2 g0
  have G0 := hide g0
  have i0' : (0 : Int) < 1 := by decide
  clear hbx hv hno hf hl hax hgl g0 p1 p2 p3 hR0 HH0
  rw [hw0] at n0
  go_enter Tryz.func14, Tryz.ntmps14
  go_upto_region 7 with fail
  rw [← hw0]
  rw [← hw0] at n0
  clear hw0
  refine wp_region_held_drew (S := fun w' => w0.grownBy w' none) (by kernel_rfl) (grown_drew (grown_refl _)) (fun hHeld => ?_)
  refine wpAnyH_take (i := 0) (v := ?_) rfl (by kernel_rfl) (by kernel_rfl) (by kernel_rfl) (fun _ _ _ h => h) (Or.inl ⟨by kernel_rfl, ?_⟩) (by assumption) ?_
  rotate_left 1
  · (intro wS hSw; have c0 := cell_still n0 hSw; have c1 := cell_still n1 hSw; have c2 := cell_still n2 hSw; have c3 := cell_still n3 hSw; have c4 := cell_still n4 hSw; go_simp; (try with_reducible rfl))
  try simp only [Act.put]
  refine wpAnyH_take (i := 1) (v := ?_) rfl (by kernel_rfl) (by kernel_rfl) (by kernel_rfl) (fun _ _ _ h => h) (Or.inl ⟨by kernel_rfl, ?_⟩) (by assumption) ?_
  rotate_left 1
  · (intro wS hSw; go_simp; (try with_reducible rfl))
  try simp only [Act.put]
  refine wpAnyH_take (i := 2) (v := ?_) rfl (by kernel_rfl) (by kernel_rfl) (by kernel_rfl) (fun _ _ _ h => h) (Or.inl ⟨by kernel_rfl, ?_⟩) (by assumption) ?_
  rotate_left 1
  · (intro wS hSw; go_simp; (try with_reducible rfl))
  try simp only [Act.put]
  refine wpAnyH_take (i := 3) (v := ?_) rfl (by kernel_rfl) (by kernel_rfl) (by kernel_rfl) (fun _ _ _ h => h) (Or.inl ⟨by kernel_rfl, ?_⟩) (by assumption) ?_
  rotate_left 1
  · (intro wS hSw; have c0 := cell_still t0 hSw; have c1 := cell_still t1 hSw; have c2 := cell_still t2 hSw; go_simp; (try with_reducible rfl))
  try simp only [Act.put]
  refine wpAnyH_take (i := 4) (v := ?_) rfl (by kernel_rfl) (by kernel_rfl) (by kernel_rfl) (fun _ _ _ h => h) (Or.inl ⟨by kernel_rfl, ?_⟩) (by assumption) ?_
  rotate_left 1
  · (intro wS hSw; go_simp; (try with_reducible rfl))
  try simp only [Act.put]
  refine wpAnyH_take (i := 5) (v := ?_) rfl (by kernel_rfl) (by kernel_rfl) (by kernel_rfl) (fun _ _ _ h => h) (Or.inl ⟨by kernel_rfl, ?_⟩) (by assumption) ?_
  rotate_left 1
  · (intro wS hSw; go_simp; (try with_reducible rfl))
  try simp only [Act.put]
  refine wpAnyH_take (i := 6) (v := ?_) rfl (by kernel_rfl) (by kernel_rfl) (by kernel_rfl) (fun _ _ _ h => h) (Or.inl ⟨by kernel_rfl, ?_⟩) (by assumption) ?_
  rotate_left 1
  · (intro wS hSw; go_simp; (try with_reducible rfl))
  try simp only [Act.put]
  refine wpAnyH_take (i := 7) (v := ?_) rfl (by kernel_rfl) (by kernel_rfl) (by kernel_rfl) (fun _ _ _ h => h) (Or.inl ⟨by kernel_rfl, ?_⟩) (by assumption) ?_
  rotate_left 1
  · (intro wS hSw; have c0 := cell_still t0 hSw; go_simp; (try with_reducible rfl))
  try simp only [Act.put]
  have g : w0.grownBy w0.drew none := hHeld
  generalize hv : w0.drew = v at g hHeld ⊢
  clear hv hHeld
  refine wpAnyH_ready (rs := [8]) (by kernel_rfl) (by simp) ?_
  refine AllReadyH.cons rfl (fun K hK => ?_) AllReadyH.nil
  go_simp
  refine (SU.out v).mono ?_
  rintro e w1 ⟨b, rfl, ob, hg1⟩
  have g1 := grown_trans g hg1
  refine hK.out _ _ g1 (fun hHeld => ?_)
  clear hK K hHeld
  try simp only [Act.put]
  refine wpAnyH_ready (rs := [9]) (by kernel_rfl) (by simp) ?_
  refine AllReadyH.cons rfl (fun K hK => ?_) AllReadyH.nil
  go_simp
  refine (EC.out w1 b (grown_trans G0.out g1) ob).mono ?_
  rintro e w2 ⟨⟨sa, sn, sc⟩, rfl, os, hg2⟩
  have g2 := grown_trans g1 hg2
  refine hK.out _ _ g2 (fun hHeld => ?_)
  clear hK K hHeld
  try simp only
  refine wpAnyH_take (i := 10) (v := ?_) rfl (by kernel_rfl) (by kernel_rfl) (by kernel_rfl) (fun _ _ _ h => h) (Or.inl ⟨by kernel_rfl, ?_⟩) (by assumption) ?_
  rotate_left 1
  · (intro wS hSw; go_simp; (try with_reducible rfl))
  try simp only [Act.put]
  refine wpAnyH_take (i := 11) (v := ?_) rfl (by kernel_rfl) (by kernel_rfl) (by kernel_rfl) (fun _ _ _ h => h) (Or.inl ⟨by kernel_rfl, ?_⟩) (by assumption) ?_
  rotate_left 1
  · (intro wS hSw; go_simp; (try with_reducible rfl))
  try simp only [Act.put]
  refine wpAnyH_done (by kernel_rfl) ?_ _
  have hz := Nat.le_trans G0.out.size g1.size
  have OS := hide (show OwnsE w2 w.heap.size (Sl.v ⟨sa, sn, sc⟩) R0 from ⟨row_base_leR os.1 hz, os.2⟩)
  have G2 := hide (grown_trans G0.out g2)
  clear os hg2 g1 g2 hz
  go_simp
  go_wp2
  go_ret2
  exact ⟨G2.out, ⟨sa, sn, sc⟩, rfl, OS.out⟩

set_option maxRecDepth 100000 in
set_option maxHeartbeats 8000000 in
theorem made_arg (n : Nod) (A : At) (hop : n.op = ⟨#[65, 114, 103, 77, 97, 120]⟩) (u : Sl) (T0 : Ten) (x xs : List Int) (gone : List Bool) (nam0 : ByteArray) (vty : Int) (dv : Sl) (w : World) (hno : NodeOk w n A) (hv : TensIn w u.v [(T0, (x, xs))]) (hf : Fine x) (hl : (xs.length : Int) = prod x) (hax : axesO x.length (alongP A x.length) (List.replicate x.length false) = some gone) (hgl : gone.length = x.length) :
    Calls Tryz.prog 14 #[nval n, .slice u.a u.n u.c, .agg #[.string nam0, .int .i64 vty, .slice dv.a dv.n dv.c]] w (EvQ w (.ok (eachL (firstL T0.ty) xs (plF x gone [0]) (cntF x gone)))) := by
  obtain ⟨za, zn, zc⟩ := dv
  obtain ⟨xa, xc, e1, p1, p2, p3⟩ := hv.vals.form
  obtain ⟨ua, un, uc⟩ := u
  simp only [Sl.v, List.map_cons, List.map_nil, List.length_cons, List.length_nil, Value.slice.injEq] at e1
  obtain ⟨rfl, rfl, rfl⟩ := e1
  obtain ⟨ub, uo, rfl⟩ := hv.vals.addr (k := 0) (by simp)
  obtain ⟨t0, t1, t2⟩ := hv.at 0 (by simp)
  have HH0 := hide (hv.has (T0, (x, xs)) (by simp))
  obtain ⟨tx, ⟨xda, xdn, xdc⟩, ⟨xta, xtn, xtc⟩⟩ := T0
  simp only [List.getElem_cons_zero, Nat.zero_mul, Nat.add_zero] at t0 t1 t2 HH0
  have EC : Hid (∀ (wx : World) (b : Nat) , w.grownBy wx none → OneB (fun x y => (Nu.bin 11 tx x y).1) wx b → Calls Tryz.prog 22 #[nval n, .agg #[.int .i64 tx, .slice xda xdn xdc, .slice xta xtn xtc], .func (.func 44) #[] #[.pointer (some ⟨b, 0, none⟩)]] wx fun e w' => ∃ s : Sl, e = .returned (.slice s.a s.n s.c) ∧ OwnsE w' wx.heap.size s.v (eachL (firstL tx) xs (plF x gone [0]) (cntF x gone)) ∧ wx.grownBy w' none) := fun wx b hx ob => each_arg n A ⟨tx, ⟨xda, xdn, xdc⟩, ⟨xta, xtn, xtc⟩⟩ x xs gone (firstL tx) b wx (hno.more hx) (HH0.out.1.more hx) (HH0.out.2.more hx) hf hl hax hgl (fun ys h1 h2 h3 => firstL_rng tx ys h3) (fun wy u ys h1 h2 h3 h4 => arg1_any _ b u ys wy h2 h3 h4 (ob.more h1))
  obtain ⟨R0, hR0⟩ : ∃ R0, R0 = eachL (firstL tx) xs (plF x gone [0]) (cntF x gone) := ⟨_, rfl⟩
  simp only
  rw [← hR0] at EC ⊢
  have SU := hide (fun w => firstGreatest_any tx w)
  obtain ⟨op, nam, ⟨ia, il, ic⟩, out, ⟨ao, al, cap⟩⟩ := n
  simp only at hop
  subst hop
  unfold nval at EC ⊢
  simp only at EC ⊢
  obtain ⟨w0, hw0⟩ : ∃ w0, w0 = (w.alloc (.cells #[.string ⟨#[65, 114, 103, 77, 97, 120]⟩, .string nam, .slice ia il ic, .string out, .slice ao al cap] 35)).alloc (.cells #[.string nam0, .int .i64 vty, .slice za zn zc] 57) := ⟨_, rfl⟩
  have g0 : w.grownBy w0 none := by rw [hw0]; exact grown_trans (grown_new _ _) (grown_new _ _)
  have hbx := two_boxes w (.cells #[.string ⟨#[65, 114, 103, 77, 97, 120]⟩, .string nam, .slice ia il ic, .string out, .slice ao al cap] 35) (.cells #[.string nam0, .int .i64 vty, .slice za zn zc] 57)
  rw [← hw0] at hbx
  obtain ⟨n0, n1, n2, n3, n4⟩ := nod_cells (n := ⟨⟨#[65, 114, 103, 77, 97, 120]⟩, nam, ⟨ia, il, ic⟩, out, ⟨ao, al, cap⟩⟩) hbx.1
  have t0 := cell_still t0 g0
  have t1 := cell_still t1 g0
  have t2 := cell_still t2 g0
  have G0 := hide g0
  have i0' : (0 : Int) < 1 := by decide
  clear hbx hv hno hf hl hax hgl g0 p1 p2 p3 hR0 HH0
  rw [hw0] at n0
  go_enter Tryz.func14, Tryz.ntmps14
  go_upto_region 9 with fail
  rw [← hw0]
  rw [← hw0] at n0
  clear hw0
  refine wp_region_held_drew (S := fun w' => w0.grownBy w' none) (by kernel_rfl) (grown_drew (grown_refl _)) (fun hHeld => ?_)
  refine wpAnyH_take (i := 0) (v := ?_) rfl (by kernel_rfl) (by kernel_rfl) (by kernel_rfl) (fun _ _ _ h => h) (Or.inl ⟨by kernel_rfl, ?_⟩) (by assumption) ?_
  rotate_left 1
  · (intro wS hSw; have c0 := cell_still n0 hSw; have c1 := cell_still n1 hSw; have c2 := cell_still n2 hSw; have c3 := cell_still n3 hSw; have c4 := cell_still n4 hSw; go_simp; (try with_reducible rfl))
  try simp only [Act.put]
  refine wpAnyH_take (i := 1) (v := ?_) rfl (by kernel_rfl) (by kernel_rfl) (by kernel_rfl) (fun _ _ _ h => h) (Or.inl ⟨by kernel_rfl, ?_⟩) (by assumption) ?_
  rotate_left 1
  · (intro wS hSw; go_simp; (try with_reducible rfl))
  try simp only [Act.put]
  refine wpAnyH_take (i := 2) (v := ?_) rfl (by kernel_rfl) (by kernel_rfl) (by kernel_rfl) (fun _ _ _ h => h) (Or.inl ⟨by kernel_rfl, ?_⟩) (by assumption) ?_
  rotate_left 1
  · (intro wS hSw; go_simp; (try with_reducible rfl))
  try simp only [Act.put]
  refine wpAnyH_take (i := 3) (v := ?_) rfl (by kernel_rfl) (by kernel_rfl) (by kernel_rfl) (fun _ _ _ h => h) (Or.inl ⟨by kernel_rfl, ?_⟩) (by assumption) ?_
  rotate_left 1
  · (intro wS hSw; have c0 := cell_still t0 hSw; have c1 := cell_still t1 hSw; have c2 := cell_still t2 hSw; go_simp; (try with_reducible rfl))
  try simp only [Act.put]
  refine wpAnyH_take (i := 4) (v := ?_) rfl (by kernel_rfl) (by kernel_rfl) (by kernel_rfl) (fun _ _ _ h => h) (Or.inl ⟨by kernel_rfl, ?_⟩) (by assumption) ?_
  rotate_left 1
  · (intro wS hSw; go_simp; (try with_reducible rfl))
  try simp only [Act.put]
  refine wpAnyH_take (i := 5) (v := ?_) rfl (by kernel_rfl) (by kernel_rfl) (by kernel_rfl) (fun _ _ _ h => h) (Or.inl ⟨by kernel_rfl, ?_⟩) (by assumption) ?_
  rotate_left 1
  · (intro wS hSw; go_simp; (try with_reducible rfl))
  try simp only [Act.put]
  refine wpAnyH_take (i := 6) (v := ?_) rfl (by kernel_rfl) (by kernel_rfl) (by kernel_rfl) (fun _ _ _ h => h) (Or.inl ⟨by kernel_rfl, ?_⟩) (by assumption) ?_
  rotate_left 1
  · (intro wS hSw; go_simp; (try with_reducible rfl))
  try simp only [Act.put]
  refine wpAnyH_take (i := 7) (v := ?_) rfl (by kernel_rfl) (by kernel_rfl) (by kernel_rfl) (fun _ _ _ h => h) (Or.inl ⟨by kernel_rfl, ?_⟩) (by assumption) ?_
  rotate_left 1
  · (intro wS hSw; have c0 := cell_still t0 hSw; go_simp; (try with_reducible rfl))
  try simp only [Act.put]
  have g : w0.grownBy w0.drew none := hHeld
  generalize hv : w0.drew = v at g hHeld ⊢
  clear hv hHeld
  refine wpAnyH_ready (rs := [8]) (by kernel_rfl) (by simp) ?_
  refine AllReadyH.cons rfl (fun K hK => ?_) AllReadyH.nil
  go_simp
  refine (SU.out v).mono ?_
  rintro e w1 ⟨b, rfl, ob, hg1⟩
  have g1 := grown_trans g hg1
  refine hK.out _ _ g1 (fun hHeld => ?_)
  clear hK K hHeld
  try simp only [Act.put]
  refine wpAnyH_ready (rs := [9]) (by kernel_rfl) (by simp) ?_
  refine AllReadyH.cons rfl (fun K hK => ?_) AllReadyH.nil
  go_simp
  refine (EC.out w1 b (grown_trans G0.out g1) ob).mono ?_
  rintro e w2 ⟨⟨sa, sn, sc⟩, rfl, os, hg2⟩
  have g2 := grown_trans g1 hg2
  refine hK.out _ _ g2 (fun hHeld => ?_)
  clear hK K hHeld
  try simp only
  refine wpAnyH_take (i := 10) (v := ?_) rfl (by kernel_rfl) (by kernel_rfl) (by kernel_rfl) (fun _ _ _ h => h) (Or.inl ⟨by kernel_rfl, ?_⟩) (by assumption) ?_
  rotate_left 1
  · (intro wS hSw; go_simp; (try with_reducible rfl))
  try simp only [Act.put]
  refine wpAnyH_take (i := 11) (v := ?_) rfl (by kernel_rfl) (by kernel_rfl) (by kernel_rfl) (fun _ _ _ h => h) (Or.inl ⟨by kernel_rfl, ?_⟩) (by assumption) ?_
  rotate_left 1
  · (intro wS hSw; go_simp; (try with_reducible rfl))
  try simp only [Act.put]
  refine wpAnyH_done (by kernel_rfl) ?_ _
  have hz := Nat.le_trans G0.out.size g1.size
  have OS := hide (show OwnsE w2 w.heap.size (Sl.v ⟨sa, sn, sc⟩) R0 from ⟨row_base_leR os.1 hz, os.2⟩)
  have G2 := hide (grown_trans G0.out g2)
  clear os hg2 g1 g2 hz
  go_simp
  go_wp2
  go_ret2
  exact ⟨G2.out, ⟨sa, sn, sc⟩, rfl, OS.out⟩

set_option maxRecDepth 100000 in
set_option maxHeartbeats 8000000 in
theorem made_soft0 (n : Nod) (A : At) (hop : n.op = ⟨#[83, 111, 102, 116, 109, 97, 120]⟩) (u : Sl) (T0 : Ten) (nam0 : ByteArray) (vty : Int) (dv : Sl) (w : World) (hno : NodeOk w n A) (hv : TensIn w u.v [(T0, ([2], [0, 0]))]) (hax : axesO 1 (alongP A 1) (List.replicate 1 false) = some [true]) :
    Calls Tryz.prog 14 #[nval n, .slice u.a u.n u.c, .agg #[.string nam0, .int .i64 vty, .slice dv.a dv.n dv.c]] w (EvQ w (.ok [1056964608, 1056964608])) := by
  obtain ⟨za, zn, zc⟩ := dv
  obtain ⟨xa, xc, e1, p1, p2, p3⟩ := hv.vals.form
  obtain ⟨ua, un, uc⟩ := u
  simp only [Sl.v, List.map_cons, List.map_nil, List.length_cons, List.length_nil, Value.slice.injEq] at e1
  obtain ⟨rfl, rfl, rfl⟩ := e1
  obtain ⟨ub, uo, rfl⟩ := hv.vals.addr (k := 0) (by simp)
  obtain ⟨t0, t1, t2⟩ := hv.at 0 (by simp)
  have HH0 := hide (hv.has (T0, ([2], [0, 0])) (by simp))
  obtain ⟨tx, ⟨xda, xdn, xdc⟩, ⟨xta, xtn, xtc⟩⟩ := T0
  simp only [List.getElem_cons_zero, Nat.zero_mul, Nat.add_zero] at t0 t1 t2 HH0
  have EC : Hid (∀ (wx : World), w.grownBy wx none → Calls Tryz.prog 27 #[nval n, .agg #[.int .i64 tx, .slice xda xdn xdc, .slice xta xtn xtc]] wx fun e w' => ∃ s : Sl, e = .returned (.slice s.a s.n s.c) ∧ OwnsE w' wx.heap.size s.v [1056964608, 1056964608] ∧ wx.grownBy w' none) := fun wx hx => softmax0 n A ⟨tx, ⟨xda, xdn, xdc⟩, ⟨xta, xtn, xtc⟩⟩ wx (hno.more hx) (HH0.out.1.more hx) (HH0.out.2.more hx) hax
  obtain ⟨R0, hR0⟩ : ∃ R0 : List Int, R0 = [1056964608, 1056964608] := ⟨_, rfl⟩
  rw [← hR0] at EC ⊢
  obtain ⟨op, nam, ⟨ia, il, ic⟩, out, ⟨ao, al, cap⟩⟩ := n
  simp only at hop
  subst hop
  unfold nval at EC ⊢
  simp only at EC ⊢
  obtain ⟨w0, hw0⟩ : ∃ w0, w0 = (w.alloc (.cells #[.string ⟨#[83, 111, 102, 116, 109, 97, 120]⟩, .string nam, .slice ia il ic, .string out, .slice ao al cap] 35)).alloc (.cells #[.string nam0, .int .i64 vty, .slice za zn zc] 57) := ⟨_, rfl⟩
  have g0 : w.grownBy w0 none := by rw [hw0]; exact grown_trans (grown_new _ _) (grown_new _ _)
  have hbx := two_boxes w (.cells #[.string ⟨#[83, 111, 102, 116, 109, 97, 120]⟩, .string nam, .slice ia il ic, .string out, .slice ao al cap] 35) (.cells #[.string nam0, .int .i64 vty, .slice za zn zc] 57)
  rw [← hw0] at hbx
  obtain ⟨n0, n1, n2, n3, n4⟩ := nod_cells (n := ⟨⟨#[83, 111, 102, 116, 109, 97, 120]⟩, nam, ⟨ia, il, ic⟩, out, ⟨ao, al, cap⟩⟩) hbx.1
  have t0 := cell_still t0 g0
  have t1 := cell_still t1 g0
  have t2 := cell_still t2 g0
  have G0 := hide g0
  have i0' : (0 : Int) < 1 := by decide
  clear hbx hv hno hax g0 p1 p2 p3 hR0 HH0
  rw [hw0] at n0
  go_enter Tryz.func14, Tryz.ntmps14
  go_upto_region 11 with fail
  rw [← hw0]
  rw [← hw0] at n0
  clear hw0
  refine wp_region_held_drew (S := fun w' => w0.grownBy w' none) (by kernel_rfl) (grown_drew (grown_refl _)) (fun hHeld => ?_)
  refine wpAnyH_take (i := 0) (v := ?_) rfl (by kernel_rfl) (by kernel_rfl) (by kernel_rfl) (fun _ _ _ h => h) (Or.inl ⟨by kernel_rfl, ?_⟩) (by assumption) ?_
  rotate_left 1
  · (intro wS hSw; have c0 := cell_still n0 hSw; have c1 := cell_still n1 hSw; have c2 := cell_still n2 hSw; have c3 := cell_still n3 hSw; have c4 := cell_still n4 hSw; go_simp; (try with_reducible rfl))
  try simp only [Act.put]
  refine wpAnyH_take (i := 1) (v := ?_) rfl (by kernel_rfl) (by kernel_rfl) (by kernel_rfl) (fun _ _ _ h => h) (Or.inl ⟨by kernel_rfl, ?_⟩) (by assumption) ?_
  rotate_left 1
  · (intro wS hSw; go_simp; (try with_reducible rfl))
  try simp only [Act.put]
  refine wpAnyH_take (i := 2) (v := ?_) rfl (by kernel_rfl) (by kernel_rfl) (by kernel_rfl) (fun _ _ _ h => h) (Or.inl ⟨by kernel_rfl, ?_⟩) (by assumption) ?_
  rotate_left 1
  · (intro wS hSw; go_simp; (try with_reducible rfl))
  try simp only [Act.put]
  refine wpAnyH_take (i := 3) (v := ?_) rfl (by kernel_rfl) (by kernel_rfl) (by kernel_rfl) (fun _ _ _ h => h) (Or.inl ⟨by kernel_rfl, ?_⟩) (by assumption) ?_
  rotate_left 1
  · (intro wS hSw; have c0 := cell_still t0 hSw; have c1 := cell_still t1 hSw; have c2 := cell_still t2 hSw; go_simp; (try with_reducible rfl))
  try simp only [Act.put]
  have g : w0.grownBy w0.drew none := hHeld
  generalize hv : w0.drew = v at g hHeld ⊢
  clear hv hHeld
  refine wpAnyH_ready (rs := [4]) (by kernel_rfl) (by simp) ?_
  refine AllReadyH.cons rfl (fun K hK => ?_) AllReadyH.nil
  go_simp
  refine (EC.out v (grown_trans G0.out g)).mono ?_
  rintro e w2 ⟨⟨sa, sn, sc⟩, rfl, os, hg2⟩
  have g1 := g
  have g2 := grown_trans g1 hg2
  refine hK.out _ _ g2 (fun hHeld => ?_)
  clear hK K hHeld
  try simp only
  refine wpAnyH_take (i := 5) (v := ?_) rfl (by kernel_rfl) (by kernel_rfl) (by kernel_rfl) (fun _ _ _ h => h) (Or.inl ⟨by kernel_rfl, ?_⟩) (by assumption) ?_
  rotate_left 1
  · (intro wS hSw; go_simp; (try with_reducible rfl))
  try simp only [Act.put]
  refine wpAnyH_take (i := 6) (v := ?_) rfl (by kernel_rfl) (by kernel_rfl) (by kernel_rfl) (fun _ _ _ h => h) (Or.inl ⟨by kernel_rfl, ?_⟩) (by assumption) ?_
  rotate_left 1
  · (intro wS hSw; go_simp; (try with_reducible rfl))
  try simp only [Act.put]
  refine wpAnyH_done (by kernel_rfl) ?_ _
  have hz := Nat.le_trans G0.out.size g1.size
  have OS := hide (show OwnsE w2 w.heap.size (Sl.v ⟨sa, sn, sc⟩) R0 from ⟨row_base_leR os.1 hz, os.2⟩)
  have G2 := hide (grown_trans G0.out g2)
  clear os hg2 g1 g2 hz
  go_simp
  go_wp2
  go_ret2
  exact ⟨G2.out, ⟨sa, sn, sc⟩, rfl, OS.out⟩

end Go.Proofs.YtahmmilhmoogbaaGreatDoor
