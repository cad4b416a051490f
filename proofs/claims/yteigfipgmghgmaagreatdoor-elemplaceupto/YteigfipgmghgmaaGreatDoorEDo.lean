/- begin.Do and elem.Do, by the walk. -/
import Derived.Test.YteigfipgmghgmaaGreatDoorEMade
namespace Go.Proofs.YteigfipgmghgmaaGreatDoor
open Go.RowKit

/-- What Do answers. -/
def doR (r : R (Int × List Int)) (M : List Int → R (List Int)) : R (Int × List Int × List Int) := match r with
  | .ok (ty, l) => (M l).map fun zs => (ty, l, zs)
  | .error c => .error c

/-- How Do ends. -/
def DoQ (w : World) (r : R (Int × List Int × List Int)) (e : Ending) (w' : World) : Prop := w.grownBy w' none ∧ match r with
  | .ok (ty, l, zs) => ∃ t : Ten, t.ty = ty ∧ e = .returned (.tuple #[tval t, .int .i64 0]) ∧ Owns w' w.heap.size t.dv.v l ∧ OwnsE w' w.heap.size t.tv.v zs
  | .error c => e = .returned (.tuple #[.agg #[.int .i64 0, .slice none 0 0, .slice none 0 0], .int .i64 c])

theorem do_err {w w' : World} {r : R (Int × List Int × List Int)} {c : Int} (h : r = .error c) (hg : w.grownBy w' none) : DoQ w r (.returned (.tuple #[.agg #[.int .i64 0, .slice none 0 0, .slice none 0 0], .int .i64 c])) w' := by rw [h]; exact ⟨hg, rfl⟩

theorem do_ok {w w' : World} {r : R (Int × List Int × List Int)} {ty : Int} {l zs : List Int} {d t : Sl} (h : r = .ok (ty, l, zs)) (hg : w.grownBy w' none) (hd : Owns w' w.heap.size d.v l) (ht : OwnsE w' w.heap.size t.v zs) : DoQ w r (.returned (.tuple #[.agg #[.int .i64 ty, .slice d.a d.n d.c, .slice t.a t.n t.c], .int .i64 0])) w' := by rw [h]; exact ⟨hg, ⟨ty, d, t⟩, rfl, rfl, hd, ht⟩

theorem ret_ten2 {fn : Func} {p u : Tmp} (h : fn.results = #[.cell p 32, .tmp u]) (tmps : Array Value) (w : World) (B : Nat) (hp : tmps.getD p undef = .pointer (some ⟨B, 0, none⟩)) {a0 a1 a2 : Value}
    (hb : w.heap[B]? = some (.cells #[a0, a1, a2] 32 (0, 0))) : (results fn tmps).run Tryz.prog w = .ok (.tuple #[.agg #[a0, a1, a2], tmps.getD u undef]) w := by
  have hl := run_loadVar_row (P := Tryz.prog) w B _ 32 #[a0, a1, a2] (0, 0) _ hb Tryz.underlying32 rfl (by rw [tenInfo]; rfl)
  rw [results_cell_tmp h, hp]
  simp [asAddr, hl, Result.andThen]

theorem row_lt {w : World} {base te sz n : Nat} {v : Value} {cs : List Value} (h : w.ownsRow base te sz v n cs) {B : Nat} (hB : B < base) : v.ownBlock = none ∨ v.ownBlock ≠ some B := by
  rcases h.2 with ⟨e, -⟩ | ⟨g, cap, cur, e, hg, -⟩
  · exact .inl (by rw [e]; rfl)
  · exact .inr (by rw [e]; simp [Value.ownBlock]; omega)

set_option maxRecDepth 100000 in
set_option maxHeartbeats 8000000 in
theorem bdo_any (n : Nod) (u : Sl) (R0 : R (Int × List Int)) (M : List Int → R (List Int)) (w : World) (h1 : ∀ c, R0 = .error c → c ≠ 0) (h2 : ∀ l c, M l = .error c → c ≠ 0)
    (NC : ∀ wx, w.grownBy wx none → Calls Tryz.prog 20 #[nval n, .slice u.a u.n u.c] wx (AttQ n.out wx R0))
    (MC : ∀ (wx : World) (ty : Int) (dv : Sl) (l : List Int), w.grownBy wx none → R0 = .ok (ty, l) → IsInts wx dv.v l → Calls Tryz.prog 14 #[nval n, .slice u.a u.n u.c, .agg #[.string n.out, .int .i64 ty, .slice dv.a dv.n dv.c]] wx (EvQ wx (M l))) :
    Calls Tryz.prog 13 #[nval n, .slice u.a u.n u.c, .func (.func 14) #[] #[]] w (DoQ w (doR R0 M)) := by
  have H1 := hide h1
  have H2 := hide h2
  have HMC := hide MC
  clear h1 h2 MC
  obtain ⟨w0, hw0⟩ : ∃ w0, w0 = (w.alloc (.cells #[.string n.op, .string n.name, .slice n.iv.a n.iv.n n.iv.c, .string n.out, .slice n.av.a n.av.n n.av.c] 25)).alloc (.cells #[.int .i64 0, .slice none 0 0, .slice none 0 0] 32) := ⟨_, rfl⟩
  have g0 : Hid (w.grownBy w0 none) := by show w.grownBy w0 none; rw [hw0]; exact grown_trans (grown_new _ _) (grown_new _ _)
  have hbx := two_boxes w (.cells #[.string n.op, .string n.name, .slice n.iv.a n.iv.n n.iv.c, .string n.out, .slice n.av.a n.av.n n.av.c] 25) (.cells #[.int .i64 0, .slice none 0 0, .slice none 0 0] 32)
  rw [← hw0] at hbx
  have BN : Hid (∀ wx, w0.grownBy wx none → wx.heap[w.heap.size]? = some (.cells #[.string n.op, .string n.name, .slice n.iv.a n.iv.n n.iv.c, .string n.out, .slice n.av.a n.av.n n.av.c] 25 (0, 0))) := fun wx hg => box_kept hbx.1 hg
  have BX : Hid (∀ wx, w0.grownBy wx none → wx.heap[w.heap.size + 1]? = some (.cells #[.int .i64 0, .slice none 0 0, .slice none 0 0] 32 (0, 0))) := fun wx hg => box_kept hbx.2 hg
  have Z0 : Hid (w.heap.size + 1 < w0.heap.size) := (Array.getElem?_eq_some_iff.1 hbx.2).1
  have N1 := hide (NC w0 g0.out)
  clear hbx NC
  obtain ⟨op, nam, ⟨ia, il, ic⟩, out, ⟨ao, al, cap⟩⟩ := n
  obtain ⟨ua, un, uc⟩ := u
  unfold nval at HMC N1 ⊢
  simp only at HMC N1 BN hw0 ⊢
  go_enter Tryz.func13, Tryz.ntmps13
  go_wp2_with fail
  rw [← hw0]
  clear hw0
  refine N1.out.mono ?_
  rintro e w1 ⟨hg1, hq⟩
  have G1 := hide hg1
  cases R0 with
  | error c =>
    obtain rfl := hq
    have hc := H1.out c rfl
    have bc : (c != 0) = true := by simpa using hc
    obtain ⟨w2, hw2⟩ : ∃ w2, w2 = w1.alloc (.cells #[.string ⟨#[]⟩, .int .i64 0, .slice none 0 0] 53) := ⟨_, rfl⟩
    have g2 : w1.grownBy w2 none := by rw [hw2]; exact grown_new _ _
    have B1 := BX.out w2 (grown_trans hg1 g2)
    obtain ⟨f0, f1, f2⟩ := ten_frozen B1
    have c0 : w2.cell? ⟨w.heap.size + 1, 0, none⟩ = some (.int .i64 0) := (cell_of_row _ _ 0 _ _ (0, 0) B1).trans rfl
    have c1 : w2.cell? ⟨w.heap.size + 1, 1, none⟩ = some (.slice none 0 0) := (cell_of_row _ _ 1 _ _ (0, 0) B1).trans rfl
    have c2 : w2.cell? ⟨w.heap.size + 1, 2, none⟩ = some (.slice none 0 0) := (cell_of_row _ _ 2 _ _ (0, 0) B1).trans rfl
    obtain ⟨hX, gX⟩ := store3t (.int .i64 0) (.slice none 0 0) (.slice none 0 0) B1
    have HX := hide hX
    have GX := hide (grown_drop (grown_trans g0.out (grown_trans hg1 g2)) gX (by omega))
    rw [hw2] at f0 f1 f2 c0 c1 c2 HX GX
    clear hX gX B1 hc hg1 g2 hw2
    go_wp2
    refine bodyPost_ret (ret_ten2 rfl _ _ (w.heap.size + 1) rfl HX.out) rfl ?_
    exact do_err rfl GX.out
  | ok rr =>
    obtain ⟨ty, l⟩ := rr
    obtain ⟨⟨s1, s2, s3⟩, rfl, ho⟩ := hq
    obtain ⟨w2, hw2⟩ : ∃ w2, w2 = w1.alloc (.cells #[.string out, .int .i64 ty, .slice s1 s2 s3] 53) := ⟨_, rfl⟩
    have g2 : w1.grownBy w2 none := by rw [hw2]; exact grown_new _ _
    have hB2 := heap_alloc_new w1 (.cells #[.string out, .int .i64 ty, .slice s1 s2 s3] 53)
    rw [← hw2] at hB2
    have BV : Hid (∀ wx, w2.grownBy wx none → wx.heap[w1.heap.size]? = some (.cells #[.string out, .int .i64 ty, .slice s1 s2 s3] 53 (0, 0))) := fun wx hg => box_kept hB2 hg
    have HO := hide ho
    obtain ⟨n0, n1, n2, n3, n4⟩ := nod_cells (n := ⟨op, nam, ⟨ia, il, ic⟩, out, ⟨ao, al, cap⟩⟩) (BN.out w2 (grown_trans hg1 g2))
    have M1 := hide (HMC.out w2 ty ⟨s1, s2, s3⟩ l (grown_trans g0.out (grown_trans hg1 g2)) rfl (ho.ints.more g2))
    have G2 := hide (grown_trans hg1 g2)
    have G12 := hide g2
    simp only at n0 n1 n2 n3 n4 M1
    rw [hw2] at n0 n1 n2 n3 n4
    clear ho hg1 g2 hB2
    go_wp2_with fail
    rw [← hw2]
    clear hw2 n0 n1 n2 n3 n4
    refine M1.out.mono ?_
    rintro e w3 ⟨hg3, hq⟩
    have B3 := BX.out w3 (grown_trans G2.out hg3)
    have G3 := hide (grown_trans g0.out (grown_trans G2.out hg3))
    obtain ⟨f0, f1, f2⟩ := ten_frozen B3
    have c0 : w3.cell? ⟨w.heap.size + 1, 0, none⟩ = some (.int .i64 0) := (cell_of_row _ _ 0 _ _ (0, 0) B3).trans rfl
    have c1 : w3.cell? ⟨w.heap.size + 1, 1, none⟩ = some (.slice none 0 0) := (cell_of_row _ _ 1 _ _ (0, 0) B3).trans rfl
    have c2 : w3.cell? ⟨w.heap.size + 1, 2, none⟩ = some (.slice none 0 0) := (cell_of_row _ _ 2 _ _ (0, 0) B3).trans rfl
    obtain ⟨mr, hmr⟩ : ∃ mr, mr = M l := ⟨_, rfl⟩
    rw [← hmr] at hq
    have ED : Hid (doR (.ok (ty, l)) M = mr.map fun zs => (ty, l, zs)) := by rw [hmr]; rfl
    cases mr with
    | error c =>
      obtain rfl := hq
      have hc := H2.out l c hmr.symm
      have bc : (c != 0) = true := by simpa using hc
      obtain ⟨hX, gX⟩ := store3t (.int .i64 0) (.slice none 0 0) (.slice none 0 0) B3
      have HX := hide hX
      have GX := hide (grown_drop G3.out gX (by omega))
      clear hX gX B3 hc hg3 hmr
      go_wp2
      refine bodyPost_ret (ret_ten2 rfl _ _ (w.heap.size + 1) rfl HX.out) rfl ?_
      exact do_err ED.out GX.out
    | ok zs =>
      obtain ⟨⟨t1, t2, t3⟩, rfl, ht⟩ := hq
      have bv := BV.out w3 hg3
      have v1 : w3.cell? ⟨w1.heap.size, 1, none⟩ = some (.int .i64 ty) := (cell_of_row _ _ 1 _ _ (0, 0) bv).trans rfl
      have v2 : w3.cell? ⟨w1.heap.size, 2, none⟩ = some (.slice s1 s2 s3) := (cell_of_row _ _ 2 _ _ (0, 0) bv).trans rfl
      obtain ⟨hX, gX⟩ := store3t (.int .i64 ty) (.slice s1 s2 s3) (.slice t1 t2 t3) B3
      have HX := hide hX
      have GX := hide (grown_drop G3.out gX (by omega))
      have z0 := Z0.out
      have z1 := g0.out.size
      have z2 := G2.out.size
      have OD := hide (((HO.out.more (grown_trans G12.out hg3) (by cases (Sl.v ⟨s1, s2, s3⟩).ownBlock <;> simp)).base_le (b' := w0.heap.size) (Nat.le_refl _)).more gX (row_lt HO.out.1 (by omega)))
      have OT : Hid (OwnsE _ w2.heap.size (Sl.v ⟨t1, t2, t3⟩) zs) := ht.more gX (row_lt ht.1 (by omega))
      clear hX gX B3 hg3 hmr bv ht z0 z1 z2
      go_wp2
      refine bodyPost_ret (ret_ten2 rfl _ _ (w.heap.size + 1) rfl HX.out) rfl ?_
      exact do_ok (d := ⟨s1, s2, s3⟩) (t := ⟨t1, t2, t3⟩) ED.out GX.out (OD.out.base_le (by have := g0.out.size; omega)) ⟨ownsRow_base OT.out.1 (by have := g0.out.size; have := G2.out.size; omega), OT.out.2⟩

set_option maxRecDepth 100000 in
set_option maxHeartbeats 8000000 in
theorem edo_any (n : Nod) (u : Sl) (r : R (Int × List Int × List Int)) (w : World) (BC : ∀ wx, w.grownBy wx none → Calls Tryz.prog 13 #[nval n, .slice u.a u.n u.c, .func (.func 14) #[] #[]] wx (DoQ wx r)) :
    Calls Tryz.prog 8 #[nval n, .slice u.a u.n u.c] w (DoQ w r) := by
  obtain ⟨w0, hw0⟩ : ∃ w0, w0 = (w.alloc (.cells #[.string n.op, .string n.name, .slice n.iv.a n.iv.n n.iv.c, .string n.out, .slice n.av.a n.av.n n.av.c] 25)).alloc (.cells #[.int .i64 0, .slice none 0 0, .slice none 0 0] 32) := ⟨_, rfl⟩
  have g0 : Hid (w.grownBy w0 none) := by show w.grownBy w0 none; rw [hw0]; exact grown_trans (grown_new _ _) (grown_new _ _)
  have hbx := two_boxes w (.cells #[.string n.op, .string n.name, .slice n.iv.a n.iv.n n.iv.c, .string n.out, .slice n.av.a n.av.n n.av.c] 25) (.cells #[.int .i64 0, .slice none 0 0, .slice none 0 0] 32)
  rw [← hw0] at hbx
  have BX : Hid (∀ wx, w0.grownBy wx none → wx.heap[w.heap.size + 1]? = some (.cells #[.int .i64 0, .slice none 0 0, .slice none 0 0] 32 (0, 0))) := fun wx hg => box_kept hbx.2 hg
  have Z0 : Hid (w.heap.size + 1 < w0.heap.size) := (Array.getElem?_eq_some_iff.1 hbx.2).1
  have N1 := hide (BC w0 g0.out)
  clear hbx BC
  obtain ⟨op, nam, ⟨ia, il, ic⟩, out, ⟨ao, al, cap⟩⟩ := n
  obtain ⟨ua, un, uc⟩ := u
  unfold nval at N1 ⊢
  simp only at N1 hw0 ⊢
  go_enter Tryz.func8, Tryz.ntmps8
  go_wp2_with fail
  rw [← hw0]
  clear hw0
  refine N1.out.mono ?_
  rintro e w3 ⟨hg3, hq⟩
  have B3 := BX.out w3 hg3
  have G3 := hide (grown_trans g0.out hg3)
  obtain ⟨f0, f1, f2⟩ := ten_frozen B3
  have c0 : w3.cell? ⟨w.heap.size + 1, 0, none⟩ = some (.int .i64 0) := (cell_of_row _ _ 0 _ _ (0, 0) B3).trans rfl
  have c1 : w3.cell? ⟨w.heap.size + 1, 1, none⟩ = some (.slice none 0 0) := (cell_of_row _ _ 1 _ _ (0, 0) B3).trans rfl
  have c2 : w3.cell? ⟨w.heap.size + 1, 2, none⟩ = some (.slice none 0 0) := (cell_of_row _ _ 2 _ _ (0, 0) B3).trans rfl
  cases r with
  | error c =>
    obtain rfl := hq
    obtain ⟨hX, gX⟩ := store3t (.int .i64 0) (.slice none 0 0) (.slice none 0 0) B3
    have HX := hide hX
    have GX := hide (grown_drop G3.out gX (by omega))
    clear hX gX B3 hg3
    go_wp2
    refine bodyPost_ret (ret_ten2 rfl _ _ (w.heap.size + 1) rfl HX.out) rfl ?_
    exact do_err rfl GX.out
  | ok rr =>
    obtain ⟨ty, l, zs⟩ := rr
    obtain ⟨⟨ty', ⟨s1, s2, s3⟩, ⟨t1, t2, t3⟩⟩, e1, rfl, hd, ht⟩ := hq
    simp only at e1
    subst e1
    obtain ⟨hX, gX⟩ := store3t (.int .i64 ty') (.slice s1 s2 s3) (.slice t1 t2 t3) B3
    have HX := hide hX
    have GX := hide (grown_drop G3.out gX (by omega))
    have OD := hide (hd.more gX (row_lt hd.1 Z0.out))
    have OT := hide (ht.more gX (row_lt ht.1 Z0.out))
    clear hX gX B3 hg3 hd ht
    unfold tval
    go_wp2
    refine bodyPost_ret (ret_ten2 rfl _ _ (w.heap.size + 1) rfl HX.out) rfl ?_
    exact do_ok (d := ⟨s1, s2, s3⟩) (t := ⟨t1, t2, t3⟩) rfl GX.out (OD.out.base_le (by have := g0.out.size; omega)) ⟨ownsRow_base OT.out.1 (by have := g0.out.size; omega), OT.out.2⟩
end Go.Proofs.YteigfipgmghgmaaGreatDoor
