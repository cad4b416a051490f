/- Joined texts: RdMade, CvDo, RdOut. -/
import Derived.Test.YtkefdkboejimeaaGreatDoorPartAY
import Derived.Test.YtkefdkboejimeaaGreatDoorPartBH
import Derived.Test.YtkefdkboejimeaaGreatDoorPartBC
import Derived.Test.YtkefdkboejimeaaGreatDoorPartAZ
import Derived.Test.YtkefdkboejimeaaGreatDoorPartAB
import Derived.Test.YtkefdkboejimeaaGreatDoorPartAQ
import Derived.Test.YtkefdkboejimeaaGreatDoorPartAW
import Derived.Test.YtkefdkboejimeaaGreatDoorPartAR
import Derived.Test.YtkefdkboejimeaaGreatDoorPartAT
import Derived.Deep.RegionHeld3
namespace Go.Proofs.YtkefdkboejimeaaGreatDoor

open Go.RowKit

theorem rng0 : Rng 0 := by unfold Rng; omega

theorem rng_w64 (n : Int) : Rng (wrap64 n) := by
  unfold Rng wrap64
  omega

theorem rng_tob (o : Option Nat) (h : ∀ r, o = some r → r < 4294967296) : Rng (Nu.tobO o) := by
  unfold Rng
  cases o with
  | none => simp [Nu.tobO]
  | some r =>
    have := h r rfl
    simp only [Nu.tobO, Nu.tob]
    split
    · omega
    · omega

theorem bits_ltR {op : BinOp} {x y r : Nat} (h : floatBits op .f32 x y = some r) : r < 4294967296 := by
  have := floatBits_wf h
  simpa [Lit.wf] using this

theorem rng_wrapT (t n : Int) (h : Rng n) : Rng (Nu.wrapT t n) := by
  unfold Nu.wrapT
  split
  · exact rng_w64 _
  · exact h

theorem rng_tob1 (b : Nat) (h : b < 4294967296) : Rng (Nu.tob b) := by
  unfold Rng
  simp only [Nu.tob]
  split <;> omega

theorem add_rng (t x y : Int) : Rng (Nu.bin 0 t x y).1 := by
  unfold Nu.bin
  split
  · split
    · exact rng_tob _ fun r h => bits_ltR h
    · split
      · exact rng0
      · exact rng_wrapT _ _ (rng_w64 _)
  · exact rng0

theorem max_rng (t x y : Int) (hx : Rng x) (hy : Rng y) : Rng (Nu.bin 4 t x y).1 := by
  unfold Nu.bin
  split
  · split
    · show Rng (Nu.maxF (Nu.fb x) (Nu.fb y))
      unfold Nu.maxF
      have h1 := rng_tob1 (Nu.fb x) (Nu.fb_lt x)
      have h2 := rng_tob1 (Nu.fb y) (Nu.fb_lt y)
      split
      · unfold Rng; omega
      · exact h2
      · exact h1
      · split
        · exact h2
        · exact h1
    · split
      · exact rng0
      · refine rng_wrapT _ _ ?_
        unfold Nu.maxI
        split
        · exact hy
        · exact hx
  · exact rng0

theorem fold_rng {g : Int → Int → Int} (hg : ∀ x y, Rng x → Rng y → Rng (g x y)) : ∀ (ys : List Int) (z : Int), Rng z → (∀ y ∈ ys, Rng y) → Rng (ys.foldl g z)
  | [], z, h, _ => h
  | y :: ys, z, h, hy => fold_rng hg ys _ (hg z y h (hy y (by simp))) (fun q hq => hy q (by simp [hq]))

def addL (t : Int) (ys : List Int) : Int := ys.foldl (fun x y => (Nu.bin 0 t x y).1) 0
def mostL (t : Int) (ys : List Int) : Int := maxL (fun x y => (Nu.bin 4 t x y).1) ys
def firstL (t : Int) (ys : List Int) : Int := argL (fun x y => (Nu.bin 11 t x y).1) ys

theorem mostL_rng (t : Int) (ys : List Int) (h : ∀ y ∈ ys, Rng y) : Rng (mostL t ys) := by
  unfold mostL maxL
  refine fold_rng (fun x y => max_rng t x y) _ _ ?_ (fun y hy => h y (List.mem_of_mem_tail hy))
  cases ys with
  | nil => exact rng0
  | cons a l => exact h a (by simp)

end Go.Proofs.YtkefdkboejimeaaGreatDoor

namespace Go.Proofs.YtkefdkboejimeaaGreatDoor

open Go.RowKit

set_option maxRecDepth 100000 in
set_option maxHeartbeats 8000000 in
theorem cbdo_any (n : Nod) (u : Sl) (R0 : R (Int × List Int)) (M : List Int → R (List Int)) (w : World) (h1 : ∀ c, R0 = .error c → c ≠ 0) (h2 : ∀ l c, M l = .error c → c ≠ 0)
    (NC : ∀ wx, w.grownBy wx none → Calls Tryz.prog 24 #[nval n, .slice u.a u.n u.c] wx (AttQ n.out wx R0))
    (MC : ∀ (wx : World) (ty : Int) (dv : Sl) (l : List Int), w.grownBy wx none → R0 = .ok (ty, l) → IsInts wx dv.v l → Calls Tryz.prog 15 #[nval n, .slice u.a u.n u.c, .agg #[.string n.out, .int .i64 ty, .slice dv.a dv.n dv.c]] wx (EvQ wx (M l))) :
    Calls Tryz.prog 14 #[nval n, .slice u.a u.n u.c, .func (.func 15) #[] #[]] w (DoQ w (doR R0 M)) := by
  have H1 := hide h1
  have H2 := hide h2
  have HMC := hide MC
  clear h1 h2 MC
  obtain ⟨w0, hw0⟩ : ∃ w0, w0 = (w.alloc (.cells #[.string n.op, .string n.name, .slice n.iv.a n.iv.n n.iv.c, .string n.out, .slice n.av.a n.av.n n.av.c] 35)).alloc (.cells #[.int .i64 0, .slice none 0 0, .slice none 0 0] 25) := ⟨_, rfl⟩
  have g0 : Hid (w.grownBy w0 none) := by show w.grownBy w0 none; rw [hw0]; exact grown_trans (grown_new _ _) (grown_new _ _)
  have hbx := two_boxes w (.cells #[.string n.op, .string n.name, .slice n.iv.a n.iv.n n.iv.c, .string n.out, .slice n.av.a n.av.n n.av.c] 35) (.cells #[.int .i64 0, .slice none 0 0, .slice none 0 0] 25)
  rw [← hw0] at hbx
  have BN : Hid (∀ wx, w0.grownBy wx none → wx.heap[w.heap.size]? = some (.cells #[.string n.op, .string n.name, .slice n.iv.a n.iv.n n.iv.c, .string n.out, .slice n.av.a n.av.n n.av.c] 35 (0, 0))) := fun wx hg => box_kept hbx.1 hg
  have BX : Hid (∀ wx, w0.grownBy wx none → wx.heap[w.heap.size + 1]? = some (.cells #[.int .i64 0, .slice none 0 0, .slice none 0 0] 25 (0, 0))) := fun wx hg => box_kept hbx.2 hg
  have Z0 : Hid (w.heap.size + 1 < w0.heap.size) := (Array.getElem?_eq_some_iff.1 hbx.2).1
  have N1 := hide (NC w0 g0.out)
  clear hbx NC
  obtain ⟨op, nam, ⟨ia, il, ic⟩, out, ⟨ao, al, cap⟩⟩ := n
  obtain ⟨ua, un, uc⟩ := u
  unfold nval at HMC N1 ⊢
  simp only at HMC N1 BN hw0 ⊢
  go_enter Tryz.func14, Tryz.ntmps14
  go_wp2_with fail
  rw [← hw0]
  clear hw0
  refine N1.out.mono ?_
  rintro e w1 ⟨hg1, hq⟩
  have G1 := hide hg1
  cases R0 with
  | error c =>
    obtain rfl := hq
    have hc := H1.out c rfl
    have bc : (c != 0) = true := by simpa using hc
    obtain ⟨w2, hw2⟩ : ∃ w2, w2 = w1.alloc (.cells #[.string ⟨#[]⟩, .int .i64 0, .slice none 0 0] 53) := ⟨_, rfl⟩
    have g2 : w1.grownBy w2 none := by rw [hw2]; exact grown_new _ _
    have B1 := BX.out w2 (grown_trans hg1 g2)
    obtain ⟨f0, f1, f2⟩ := ten_frozen B1
    have c0 : w2.cell? ⟨w.heap.size + 1, 0, none⟩ = some (.int .i64 0) := (cell_of_row _ _ 0 _ _ (0, 0) B1).trans rfl
    have c1 : w2.cell? ⟨w.heap.size + 1, 1, none⟩ = some (.slice none 0 0) := (cell_of_row _ _ 1 _ _ (0, 0) B1).trans rfl
    have c2 : w2.cell? ⟨w.heap.size + 1, 2, none⟩ = some (.slice none 0 0) := (cell_of_row _ _ 2 _ _ (0, 0) B1).trans rfl
    obtain ⟨hX, gX⟩ := store3t (.int .i64 0) (.slice none 0 0) (.slice none 0 0) B1
    have HX := hide hX
    have GX := hide (grown_drop (grown_trans g0.out (grown_trans hg1 g2)) gX (by omega))
    rw [hw2] at f0 f1 f2 c0 c1 c2 HX GX
    clear hX gX B1 hc hg1 g2 hw2
    go_wp2
    refine bodyPost_ret (ret_ten2 rfl _ _ (w.heap.size + 1) rfl HX.out) rfl ?_
    exact do_err rfl GX.out
  | ok rr =>
    obtain ⟨ty, l⟩ := rr
    obtain ⟨⟨s1, s2, s3⟩, rfl, ho⟩ := hq
    obtain ⟨w2, hw2⟩ : ∃ w2, w2 = w1.alloc (.cells #[.string out, .int .i64 ty, .slice s1 s2 s3] 53) := ⟨_, rfl⟩
    have g2 : w1.grownBy w2 none := by rw [hw2]; exact grown_new _ _
    have hB2 := heap_alloc_new w1 (.cells #[.string out, .int .i64 ty, .slice s1 s2 s3] 53)
    rw [← hw2] at hB2
    have BV : Hid (∀ wx, w2.grownBy wx none → wx.heap[w1.heap.size]? = some (.cells #[.string out, .int .i64 ty, .slice s1 s2 s3] 53 (0, 0))) := fun wx hg => box_kept hB2 hg
    have HO := hide ho
    obtain ⟨n0, n1, n2, n3, n4⟩ := nod_cells (n := ⟨op, nam, ⟨ia, il, ic⟩, out, ⟨ao, al, cap⟩⟩) (BN.out w2 (grown_trans hg1 g2))
    have M1 := hide (HMC.out w2 ty ⟨s1, s2, s3⟩ l (grown_trans g0.out (grown_trans hg1 g2)) rfl (ho.ints.more g2))
    have G2 := hide (grown_trans hg1 g2)
    have G12 := hide g2
    simp only at n0 n1 n2 n3 n4 M1
    rw [hw2] at n0 n1 n2 n3 n4
    clear ho hg1 g2 hB2
    go_wp2_with fail
    rw [← hw2]
    clear hw2 n0 n1 n2 n3 n4
    refine M1.out.mono ?_
    rintro e w3 ⟨hg3, hq⟩
    have B3 := BX.out w3 (grown_trans G2.out hg3)
    have G3 := hide (grown_trans g0.out (grown_trans G2.out hg3))
    obtain ⟨f0, f1, f2⟩ := ten_frozen B3
    have c0 : w3.cell? ⟨w.heap.size + 1, 0, none⟩ = some (.int .i64 0) := (cell_of_row _ _ 0 _ _ (0, 0) B3).trans rfl
    have c1 : w3.cell? ⟨w.heap.size + 1, 1, none⟩ = some (.slice none 0 0) := (cell_of_row _ _ 1 _ _ (0, 0) B3).trans rfl
    have c2 : w3.cell? ⟨w.heap.size + 1, 2, none⟩ = some (.slice none 0 0) := (cell_of_row _ _ 2 _ _ (0, 0) B3).trans rfl
    obtain ⟨mr, hmr⟩ : ∃ mr, mr = M l := ⟨_, rfl⟩
    rw [← hmr] at hq
    have ED : Hid (doR (.ok (ty, l)) M = mr.map fun zs => (ty, l, zs)) := by rw [hmr]; rfl
    cases mr with
    | error c =>
      obtain rfl := hq
      have hc := H2.out l c hmr.symm
      have bc : (c != 0) = true := by simpa using hc
      obtain ⟨hX, gX⟩ := store3t (.int .i64 0) (.slice none 0 0) (.slice none 0 0) B3
      have HX := hide hX
      have GX := hide (grown_drop G3.out gX (by omega))
      clear hX gX B3 hc hg3 hmr
      go_wp2
      refine bodyPost_ret (ret_ten2 rfl _ _ (w.heap.size + 1) rfl HX.out) rfl ?_
      exact do_err ED.out GX.out
    | ok zs =>
      obtain ⟨⟨t1, t2, t3⟩, rfl, ht⟩ := hq
      have bv := BV.out w3 hg3
      have v1 : w3.cell? ⟨w1.heap.size, 1, none⟩ = some (.int .i64 ty) := (cell_of_row _ _ 1 _ _ (0, 0) bv).trans rfl
      have v2 : w3.cell? ⟨w1.heap.size, 2, none⟩ = some (.slice s1 s2 s3) := (cell_of_row _ _ 2 _ _ (0, 0) bv).trans rfl
      obtain ⟨hX, gX⟩ := store3t (.int .i64 ty) (.slice s1 s2 s3) (.slice t1 t2 t3) B3
      have HX := hide hX
      have GX := hide (grown_drop G3.out gX (by omega))
      have z0 := Z0.out
      have z1 := g0.out.size
      have z2 := G2.out.size
      have OD := hide (((HO.out.more (grown_trans G12.out hg3) (by cases (Sl.v ⟨s1, s2, s3⟩).ownBlock <;> simp)).base_le (b' := w0.heap.size) (Nat.le_refl _)).more gX (row_lt HO.out.1 (by omega)))
      have OT : Hid (OwnsE _ w2.heap.size (Sl.v ⟨t1, t2, t3⟩) zs) := ht.more gX (row_lt ht.1 (by omega))
      clear hX gX B3 hg3 hmr bv ht z0 z1 z2
      go_wp2
      refine bodyPost_ret (ret_ten2 rfl _ _ (w.heap.size + 1) rfl HX.out) rfl ?_
      exact do_ok (d := ⟨s1, s2, s3⟩) (t := ⟨t1, t2, t3⟩) ED.out GX.out (OD.out.base_le (by have := g0.out.size; omega)) ⟨ownsRow_base OT.out.1 (by have := g0.out.size; have := G2.out.size; omega), OT.out.2⟩

set_option maxRecDepth 100000 in
set_option maxHeartbeats 8000000 in
theorem cdo_any (n : Nod) (u : Sl) (r : R (Int × List Int × List Int)) (w : World) (BC : ∀ wx, w.grownBy wx none → Calls Tryz.prog 14 #[nval n, .slice u.a u.n u.c, .func (.func 15) #[] #[]] wx (DoQ wx r)) :
    Calls Tryz.prog 9 #[nval n, .slice u.a u.n u.c] w (DoQ w r) := by
  obtain ⟨w0, hw0⟩ : ∃ w0, w0 = (w.alloc (.cells #[.string n.op, .string n.name, .slice n.iv.a n.iv.n n.iv.c, .string n.out, .slice n.av.a n.av.n n.av.c] 35)).alloc (.cells #[.int .i64 0, .slice none 0 0, .slice none 0 0] 25) := ⟨_, rfl⟩
  have g0 : Hid (w.grownBy w0 none) := by show w.grownBy w0 none; rw [hw0]; exact grown_trans (grown_new _ _) (grown_new _ _)
  have hbx := two_boxes w (.cells #[.string n.op, .string n.name, .slice n.iv.a n.iv.n n.iv.c, .string n.out, .slice n.av.a n.av.n n.av.c] 35) (.cells #[.int .i64 0, .slice none 0 0, .slice none 0 0] 25)
  rw [← hw0] at hbx
  have BX : Hid (∀ wx, w0.grownBy wx none → wx.heap[w.heap.size + 1]? = some (.cells #[.int .i64 0, .slice none 0 0, .slice none 0 0] 25 (0, 0))) := fun wx hg => box_kept hbx.2 hg
  have Z0 : Hid (w.heap.size + 1 < w0.heap.size) := (Array.getElem?_eq_some_iff.1 hbx.2).1
  have N1 := hide (BC w0 g0.out)
  clear hbx BC
  obtain ⟨op, nam, ⟨ia, il, ic⟩, out, ⟨ao, al, cap⟩⟩ := n
  obtain ⟨ua, un, uc⟩ := u
  unfold nval at N1 ⊢
  simp only at N1 hw0 ⊢
  go_enter Tryz.func9, Tryz.ntmps9
  go_wp2_with fail
  rw [← hw0]
  clear hw0
  refine N1.out.mono ?_
  rintro e w3 ⟨hg3, hq⟩
  have B3 := BX.out w3 hg3
  have G3 := hide (grown_trans g0.out hg3)
  obtain ⟨f0, f1, f2⟩ := ten_frozen B3
  have c0 : w3.cell? ⟨w.heap.size + 1, 0, none⟩ = some (.int .i64 0) := (cell_of_row _ _ 0 _ _ (0, 0) B3).trans rfl
  have c1 : w3.cell? ⟨w.heap.size + 1, 1, none⟩ = some (.slice none 0 0) := (cell_of_row _ _ 1 _ _ (0, 0) B3).trans rfl
  have c2 : w3.cell? ⟨w.heap.size + 1, 2, none⟩ = some (.slice none 0 0) := (cell_of_row _ _ 2 _ _ (0, 0) B3).trans rfl
  cases r with
  | error c =>
    obtain rfl := hq
    obtain ⟨hX, gX⟩ := store3t (.int .i64 0) (.slice none 0 0) (.slice none 0 0) B3
    have HX := hide hX
    have GX := hide (grown_drop G3.out gX (by omega))
    clear hX gX B3 hg3
    go_wp2
    refine bodyPost_ret (ret_ten2 rfl _ _ (w.heap.size + 1) rfl HX.out) rfl ?_
    exact do_err rfl GX.out
  | ok rr =>
    obtain ⟨ty, l, zs⟩ := rr
    obtain ⟨⟨ty', ⟨s1, s2, s3⟩, ⟨t1, t2, t3⟩⟩, e1, rfl, hd, ht⟩ := hq
    simp only at e1
    subst e1
    obtain ⟨hX, gX⟩ := store3t (.int .i64 ty') (.slice s1 s2 s3) (.slice t1 t2 t3) B3
    have HX := hide hX
    have GX := hide (grown_drop G3.out gX (by omega))
    have OD := hide (hd.more gX (row_lt hd.1 Z0.out))
    have OT := hide (ht.more gX (row_lt ht.1 Z0.out))
    clear hX gX B3 hg3 hd ht
    unfold tval
    go_wp2
    refine bodyPost_ret (ret_ten2 rfl _ _ (w.heap.size + 1) rfl HX.out) rfl ?_
    exact do_ok (d := ⟨s1, s2, s3⟩) (t := ⟨t1, t2, t3⟩) rfl GX.out (OD.out.base_le (by have := g0.out.size; omega)) ⟨ownsRow_base OT.out.1 (by have := g0.out.size; omega), OT.out.2⟩

end Go.Proofs.YtkefdkboejimeaaGreatDoor

namespace Go.Proofs.YtkefdkboejimeaaGreatDoor

open Go.RowKit

def outR (t : Int) (x : List Int) (ts : R Int) (d : R (List Int)) : R (Int × List Int) :=
  (typP t).bind fun _ => (countP x).bind fun _ => ts.bind fun t' => d.bind fun d => (countP d).bind fun _ => .ok (t', d)

theorem valueR (v0 : Val) (x : List Int) (ts : R Int) (d : R (List Int)) : valueP 0 true [(v0, x)] ts d [] = outR v0.ty x ts d := by
  unfold valueP outR
  simp only [stopP, mustP, if_true, vinP, thenP, bind_assocE]
  rfl

theorem outR_inv {t ty : Int} {x l : List Int} {ts : R Int} {d : R (List Int)} (h : outR t x ts d = .ok (ty, l)) : cntE x = 0 ∧ ts = .ok ty ∧ d = .ok l ∧ cntE l = 0 := by
  unfold outR at h
  obtain ⟨_, -, h⟩ := bind_ok h
  obtain ⟨_, hx, h⟩ := bind_ok h
  obtain ⟨t', ht, h⟩ := bind_ok h
  obtain ⟨d', hd, h⟩ := bind_ok h
  obtain ⟨_, hc, h⟩ := bind_ok h
  cases h
  exact ⟨count_ok hx, ht, hd, count_ok hc⟩

theorem bindR {α β : Type} {c : Int} {r : R α} {f : α → R β} (h : r.bind f = .error c) : r = .error c ∨ ∃ a, r = .ok a ∧ f a = .error c := by
  cases r with
  | error c' => exact .inl (by cases h; rfl)
  | ok a => exact .inr ⟨a, rfl, h⟩

theorem nz_mustR {b : Bool} {c : Int} (h : mustP b = .error c) : c ≠ 0 := by
  unfold mustP at h
  split at h
  · cases h
  · cases h; decide

theorem nz_outR (t : Int) (x : List Int) (ts : R Int) (d : R (List Int)) (ht : ∀ c, ts = .error c → c ≠ 0) (hd : ∀ c, d = .error c → c ≠ 0) : ∀ c, outR t x ts d = .error c → c ≠ 0 := by
  intro c h
  unfold outR at h
  rcases bindR h with h | ⟨_, -, h⟩
  · exact nz_typT h
  rcases bindR h with h | ⟨_, -, h⟩
  · exact nz_cntT h
  rcases bindR h with h | ⟨_, -, h⟩
  · exact ht _ h
  rcases bindR h with h | ⟨_, -, h⟩
  · exact hd _ h
  rcases bindR h with h | ⟨_, -, h⟩
  · exact nz_cntT h
  · cases h

def tySame (t : Int) : R Int := (mustP (t != 9)).bind fun _ => .ok t
def tyArg (t : Int) : R Int := (mustP (t != 9)).bind fun _ => .ok 7
def tyFlt (t : Int) : R Int := (mustP (t == 1)).bind fun _ => .ok 1

theorem nz_tyflt (t : Int) : ∀ c, tyFlt t = .error c → c ≠ 0 := fun c h => by
  rcases bindR h with h | ⟨_, -, h⟩
  · exact nz_mustR h
  · cases h

theorem routG (n : Nod) (A : At) (i1 : ByteArray) (u : Sl) (v0 : Val) (x : List Int) (w : World) (hl : Laid w) (hni : NodeIn w n [i1] A.xs A.cs) (hck : checkF (ruleF n.op) n.op [i1] n.out A.xs A.cs = 0) (hth : thenL (A.xs.find? (isA ⟨#[116, 104, 101, 110]⟩ 3)) = []) (ho : n.out.size ≤ 1048576) (hv : ValsIn w u.v [(v0, x)]) (ts : R Int) (d : R (List Int))
    (TM : vinP [(v0, x)] = .ok () → ∀ wx, w.grownBy wx none → Calls Tryz.prog 121 #[nval n, .slice u.a u.n u.c] wx (Ended wx ts fun t v _ => v = .int .i64 t ∧ isTypeP t = true))
    (DM : vinP [(v0, x)] = .ok () → ∀ wx, w.grownBy wx none → Calls Tryz.prog 122 #[nval n, .slice u.a u.n u.c] wx (Ended wx d DimsQ)) :
    Calls Tryz.prog 53 #[nval n, .slice u.a u.n u.c] w (AttQ n.out w (outR v0.ty x ts d)) := by
  refine out_any n u _ w fun wx hx => ?_
  have key := valueof_any n A [i1] u [(v0, x)] wx (hl.more hx) (hni.more hx) (hv.more hx) (by omega) _ _ (fun hc hll hin wy hy => TM hin wy (grown_trans hx hy)) (fun hc hll hin wy hy => DM hin wy (grown_trans hx hy))
  rw [hck, hth] at key
  have e := valueR v0 x ts d
  refine key.mono fun e' w' he => ?_
  rw [← e]
  exact ended_monoE he fun r v _ e2 => e2

end Go.Proofs.YtkefdkboejimeaaGreatDoor
