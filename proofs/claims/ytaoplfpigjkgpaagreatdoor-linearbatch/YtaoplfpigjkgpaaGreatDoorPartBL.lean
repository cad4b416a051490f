/- Joined texts: EAs, LnDo. -/
import Derived.Test.YtaoplfpigjkgpaaGreatDoorPartBD
import Derived.Test.YtaoplfpigjkgpaaGreatDoorPartBK
namespace Go.Proofs.YtaoplfpigjkgpaaGreatDoor

open Go.RowKit

def asE (ds ts l : List Int) : Int := if cntE ds ≠ 0 then cntE ds else if bcE ds l ≠ 0 then bcE ds l else if bcR ds l = l then Vw.rdE 0 l (Vw.spr ds (strd ds) l) ts else 4
def asL (ds ts l : List Int) : List Int := if asE ds ts l = 0 then Vw.rdL 0 l (Vw.spr ds (strd ds) l) ts else []

theorem owns64_sl {w : World} {base : Nat} {v : Value} {zs : List Int} (h : Vw.Owns64 w base v zs) : ∃ a n c, v = .slice a n c := by
  obtain ⟨a, c, e, -⟩ := (OwnsE.ints (w := w) (base := base) h).sl
  exact ⟨_, _, _, e⟩

theorem ownsRow_base {w : World} {base base' te sz n : Nat} {v : Value} {cs : List Value} (h : w.ownsRow base te sz v n cs) (hb : base' ≤ base) : w.ownsRow base' te sz v n cs := by
  obtain ⟨h1, h2 | ⟨g, cap, cur, e1, e2, e3⟩⟩ := h
  · exact ⟨h1, .inl h2⟩
  · exact ⟨h1, .inr ⟨g, cap, cur, e1, Nat.le_trans hb e2, e3⟩⟩

theorem owns64_base {w : World} {base base' : Nat} {v : Value} {zs : List Int} (h : Vw.Owns64 w base v zs) (hb : base' ≤ base) : Vw.Owns64 w base' v zs := ⟨ownsRow_base h.1 hb, h.2⟩

def AsQ (w : World) (ds ts l : List Int) (e : Ending) (w' : World) : Prop := ∃ u : Sl, e = .returned (.tuple #[.slice u.a u.n u.c, .int .i64 (asE ds ts l)]) ∧ Vw.Owns64 w' w.heap.size u.v (asL ds ts l) ∧ w.grownBy w' none

theorem as_err {w w' : World} {ds ts l : List Int} {c : Int} (h : asE ds ts l = c) (hc : c ≠ 0) (hg : w.grownBy w' none) : AsQ w ds ts l (.returned (.tuple #[.slice none 0 0, .int .i64 c])) w' := by
  subst h
  refine ⟨⟨none, 0, 0⟩, rfl, ?_, hg⟩
  rw [show asL ds ts l = [] from if_neg hc]
  exact Vw.owns64_nil _ _

theorem spread_err {ds ts l : List Int} {E off' : Int} {ds' ss' : List Int} (h : Vw.Spreaded 0 ds (strd ds) l E off' ds' ss') (hc : cntE ds = 0) (hE : E ≠ 0) : asE ds ts l = E := by
  unfold asE
  rw [if_neg (by simp [hc])]
  rcases h with ⟨h, -⟩ | ⟨-, h1, h2, -⟩ | ⟨-, h1, h2, h3, -⟩ | ⟨-, -, -, h, -⟩
  · exact absurd (Vw.may_whole (fine_of hc)) h
  · rw [if_pos h1, h2]
  · rw [if_neg (by simp [h1]), if_neg h2, h3]
  · exact absurd h hE

theorem spread_ok {ds ts l : List Int} {E off' : Int} {ds' ss' : List Int} (h : Vw.Spreaded 0 ds (strd ds) l E off' ds' ss') (hc : cntE ds = 0) (hE : E = 0) : off' = 0 ∧ ds' = l ∧ ss' = Vw.spr ds (strd ds) l ∧ asE ds ts l = Vw.rdE 0 l (Vw.spr ds (strd ds) l) ts ∧ asL ds ts l = Vw.rdL 0 l (Vw.spr ds (strd ds) l) ts := by
  have key : bcE ds l = 0 ∧ bcR ds l = l ∧ off' = 0 ∧ ds' = l ∧ ss' = Vw.spr ds (strd ds) l := by
    rcases h with ⟨-, h, -⟩ | ⟨-, h1, h2, -⟩ | ⟨-, h1, h2, h3, -⟩ | ⟨-, h1, h2, -, h4, h5, h6⟩
    · omega
    · exact absurd (h2.symm.trans hE) h1
    · omega
    · exact ⟨h1, h2, h4, h5, h6⟩
  obtain ⟨h1, h2, h3, h4, h5⟩ := key
  have e : asE ds ts l = Vw.rdE 0 l (Vw.spr ds (strd ds) l) ts := by
    unfold asE
    rw [if_neg (by simp [hc]), if_neg (by simp [h1]), if_pos h2]
  refine ⟨h3, h4, h5, e, ?_⟩
  unfold asL
  rw [e]
  unfold Vw.rdE Vw.rdL
  by_cases hr : Vw.rdOk 0 l (Vw.spr ds (strd ds) l) ts = true <;> simp [hr]

set_option maxRecDepth 100000 in
set_option maxHeartbeats 4000000 in
theorem as_any (t : Ten) (ds ts l : List Int) (lv : Sl) (w : World) (hd : IsInts w t.dv.v ds) (ht : IsInts w t.tv.v ts) (hl : IsInts w lv.v l) :
    Calls Tryz.prog 22 #[tval t, .func (.func 25) #[] #[], .slice lv.a lv.n lv.c] w (AsQ w ds ts l) := by
  have HD := hide hd
  have HT := hide ht
  have HL := hide hl
  clear hd ht hl
  obtain ⟨ty, ⟨da, dn, dc⟩, ⟨ta, tn, tc⟩⟩ := t
  obtain ⟨la, ln, lc⟩ := lv
  unfold tval
  simp only [Sl.v] at HD HT HL ⊢
  obtain ⟨w0, hw0⟩ : ∃ w0, w0 = w.alloc (.cells #[.int .i64 ty, .slice da dn dc, .slice ta tn tc] 32) := ⟨_, rfl⟩
  have g0 : Hid (w.grownBy w0 none) := by show w.grownBy w0 none; rw [hw0]; exact grown_new _ _
  have B0 := heap_alloc_new w (.cells #[.int .i64 ty, .slice da dn dc, .slice ta tn tc] 32)
  have c0 := (cell_of_row _ _ 0 _ _ (0, 0) B0).trans rfl
  have c1 := (cell_of_row _ _ 1 _ _ (0, 0) B0).trans rfl
  have c2 := (cell_of_row _ _ 2 _ _ (0, 0) B0).trans rfl
  rw [← hw0] at B0
  have BX : Hid (∀ wx, w0.grownBy wx none → wx.heap[w.heap.size]? = some (.cells #[.int .i64 ty, .slice da dn dc, .slice ta tn tc] 32 (0, 0))) := fun wx hg => box_kept B0 hg
  have WH := hide (Vw.whole_any (.slice da dn dc) ds w0 (HD.out.more g0.out))
  clear B0
  go_enter Tryz.func22, Tryz.ntmps22
  go_wp2_with fail
  rw [← hw0]
  clear hw0 c0 c1 c2
  refine WH.out.mono ?_
  rintro e w1 ⟨v, rfl, hov, hg1⟩
  obtain ⟨vd, vs, rfl, od, os, -⟩ := hov
  obtain ⟨vda, vdc, rfl, -⟩ := od.ints.sl
  obtain ⟨vsa, vsc, rfl, -⟩ := os.ints.sl
  have VD := hide od
  have VS := hide os
  clear od os
  obtain ⟨wA, hwA⟩ : ∃ wA, wA = w1.alloc (.cells #[.int .i64 0, .slice vda (Vw.rowDs ds).length vdc, .slice vsa (strdE ds).length vsc] 72) := ⟨_, rfl⟩
  have hX := heap_alloc_new w1 (.cells #[.int .i64 0, .slice vda (Vw.rowDs ds).length vdc, .slice vsa (strdE ds).length vsc] 72)
  rw [← hwA] at hX
  have gX : w1.grownBy wA none := by rw [hwA]; exact grown_new _ _
  have hs1 : w1.heap.size < wA.heap.size := by rw [hwA]; simp
  have g1 := hide (grown_trans g0.out hg1)
  have GX := hide gX
  have HX := hide hX
  by_cases hE : cntE ds = 0
  · have hE' : (cntE ds != 0) = false := by simp [hE]
    have VI : Vw.IsView w1 (.agg #[.int .i64 0, .slice vda (Vw.rowDs ds).length vdc, .slice vsa (strdE ds).length vsc]) 0 ds (strd ds) := by
      have h1 := VD.out.ints
      have h2 := VS.out.ints
      rw [show Vw.rowDs ds = ds from if_pos hE] at h1
      rw [show strdE ds = strd ds from if_pos hE] at h2
      rw [show Vw.rowDs ds = ds from if_pos hE, show strdE ds = strd ds from if_pos hE]
      exact ⟨_, _, rfl, h1, h2, by omega, by omega⟩
    have SP := hide (Vw.spread_any _ _ 0 ds (strd ds) l _ (VI.more GX.out) (HL.out.more (grown_trans g1.out GX.out)))
    have HE := hide hE
    clear VI hE hX gX
    go_wp2_with fail
    rw [← hwA]
    clear hwA
    refine SP.out.mono ?_
    rintro e w2 ⟨u, E, off', ds', ss', rfl, hsp, hou, hg2⟩
    obtain ⟨ud, us, rfl, od, os, ho1, ho2, -⟩ := hou
    obtain ⟨uda, udc, rfl, -⟩ := od.ints.sl
    obtain ⟨usa, usc, rfl, -⟩ := os.ints.sl
    have hb := box_kept HX.out hg2
    obtain ⟨k0, k1, k2, f0, f1, f2⟩ := Vw.box_cells hb
    obtain ⟨hY, gY, gB⟩ := Vw.store3 (.int .i64 off') (.slice uda ds'.length udc) (.slice usa ss'.length usc) (grown_trans GX.out hg2) (Nat.le_refl _) hb
    have OD := hide (od.box gB (by omega))
    have OS := hide (os.box gB (by omega))
    have GY := hide (grown_trans g1.out gY)
    have HSP := hide hsp
    obtain ⟨y0, y1, y2, -, -, -⟩ := Vw.box_cells hY
    clear od os hb hY gB hsp hg2
    by_cases hE2 : E = 0
    · have hE2' : (E != 0) = false := by simp [hE2]
      obtain ⟨rfl, rfl, rfl, ea, el⟩ := spread_ok (ts := ts) HSP.out HE.out hE2
      obtain ⟨w3, hw3⟩ : ∃ w3, w3 = ((w2.setCell ⟨w1.heap.size, 0, none⟩ (.int .i64 0)).setCell ⟨w1.heap.size, 1, none⟩ (.slice uda ds'.length udc)).setCell ⟨w1.heap.size, 2, none⟩ (.slice usa (Vw.spr ds (strd ds) ds').length usc) := ⟨_, rfl⟩
      rw [← hw3] at OD OS GY gY
      have BT := BX.out _ (grown_trans hg1 gY)
      have t2 : w3.cell? ⟨w.heap.size, 2, none⟩ = some (.slice ta tn tc) := (cell_of_row _ _ 2 _ _ (0, 0) BT).trans rfl
      rw [hw3] at t2
      have RD := hide (Vw.read_any 0 ds' (Vw.spr ds (strd ds) ds') ts _ _ w3 ⟨_, _, rfl, OD.out.ints, OS.out.ints, by omega, by omega⟩ (HT.out.more GY.out))
      rw [← ea, ← el] at RD
      have LT : Hid (w.heap.size ≤ w3.heap.size) := GY.out.size
      clear ea el BT hE2 gY
      go_wp2_with fail
      rw [← hw3]
      clear hw3 t2 y0 y1 y2
      refine RD.out.mono ?_
      rintro e w4 ⟨u, rfl, ou, hg4⟩
      obtain ⟨ua, un, uc, rfl⟩ := owns64_sl ou
      have OU := hide (owns64_base ou LT.out)
      have G4 := hide (grown_trans GY.out hg4)
      clear ou hg4
      go_wp2
      go_ret2
      exact ⟨⟨ua, un, uc⟩, rfl, OU.out, G4.out⟩
    · have hE2' : (E != 0) = true := by simpa using hE2
      have HE2 := hide hE2
      clear hE2 y0 y1 y2
      go_wp2
      go_ret2
      exact as_err (spread_err HSP.out HE.out HE2.out) HE2.out GY.out
  · have hE' : (cntE ds != 0) = true := by simpa using hE
    have HE := hide hE
    clear hE hX gX
    go_wp2
    rw [← hwA]
    go_ret2
    exact as_err (if_pos HE.out) HE.out (grown_trans g1.out GX.out)

end Go.Proofs.YtaoplfpigjkgpaaGreatDoor

namespace Go.Proofs.YtaoplfpigjkgpaaGreatDoor

open Go.RowKit

def doR (r : R (Int × List Int)) (M : List Int → R (List Int)) : R (Int × List Int × List Int) := match r with
  | .ok (ty, l) => (M l).map fun zs => (ty, l, zs)
  | .error c => .error c

def DoQ (w : World) (r : R (Int × List Int × List Int)) (e : Ending) (w' : World) : Prop := w.grownBy w' none ∧ match r with
  | .ok (ty, l, zs) => ∃ t : Ten, t.ty = ty ∧ e = .returned (.tuple #[tval t, .int .i64 0]) ∧ Owns w' w.heap.size t.dv.v l ∧ OwnsE w' w.heap.size t.tv.v zs
  | .error c => e = .returned (.tuple #[.agg #[.int .i64 0, .slice none 0 0, .slice none 0 0], .int .i64 c])

theorem do_err {w w' : World} {r : R (Int × List Int × List Int)} {c : Int} (h : r = .error c) (hg : w.grownBy w' none) : DoQ w r (.returned (.tuple #[.agg #[.int .i64 0, .slice none 0 0, .slice none 0 0], .int .i64 c])) w' := by rw [h]; exact ⟨hg, rfl⟩

theorem do_ok {w w' : World} {r : R (Int × List Int × List Int)} {ty : Int} {l zs : List Int} {d t : Sl} (h : r = .ok (ty, l, zs)) (hg : w.grownBy w' none) (hd : Owns w' w.heap.size d.v l) (ht : OwnsE w' w.heap.size t.v zs) : DoQ w r (.returned (.tuple #[.agg #[.int .i64 ty, .slice d.a d.n d.c, .slice t.a t.n t.c], .int .i64 0])) w' := by rw [h]; exact ⟨hg, ⟨ty, d, t⟩, rfl, rfl, hd, ht⟩

theorem ret_ten2 {fn : Func} {p u : Tmp} (h : fn.results = #[.cell p 32, .tmp u]) (tmps : Array Value) (w : World) (B : Nat) (hp : tmps.getD p undef = .pointer (some ⟨B, 0, none⟩)) {a0 a1 a2 : Value}
    (hb : w.heap[B]? = some (.cells #[a0, a1, a2] 32 (0, 0))) : (results fn tmps).run Tryz.prog w = .ok (.tuple #[.agg #[a0, a1, a2], tmps.getD u undef]) w := by
  have hl := run_loadVar_row (P := Tryz.prog) w B _ 32 #[a0, a1, a2] (0, 0) _ hb Tryz.underlying32 rfl (by rw [tenInfo]; rfl)
  rw [results_cell_tmp h, hp]
  simp [asAddr, hl, Result.andThen]

theorem row_lt {w : World} {base te sz n : Nat} {v : Value} {cs : List Value} (h : w.ownsRow base te sz v n cs) {B : Nat} (hB : B < base) : v.ownBlock = none ∨ v.ownBlock ≠ some B := by
  rcases h.2 with ⟨e, -⟩ | ⟨g, cap, cur, e, hg, -⟩
  · exact .inl (by rw [e]; rfl)
  · exact .inr (by rw [e]; simp [Value.ownBlock]; omega)

set_option maxRecDepth 100000 in
set_option maxHeartbeats 8000000 in
theorem lbdo_any (n : Nod) (u : Sl) (R0 : R (Int × List Int)) (M : List Int → R (List Int)) (w : World) (h1 : ∀ c, R0 = .error c → c ≠ 0) (h2 : ∀ l c, M l = .error c → c ≠ 0)
    (NC : ∀ wx, w.grownBy wx none → Calls Tryz.prog 21 #[nval n, .slice u.a u.n u.c] wx (AttQ n.out wx R0))
    (MC : ∀ (wx : World) (ty : Int) (dv : Sl) (l : List Int), w.grownBy wx none → R0 = .ok (ty, l) → IsInts wx dv.v l → Calls Tryz.prog 20 #[nval n, .slice u.a u.n u.c, .agg #[.string n.out, .int .i64 ty, .slice dv.a dv.n dv.c]] wx (EvQ wx (M l))) :
    Calls Tryz.prog 17 #[nval n, .slice u.a u.n u.c, .func (.func 20) #[] #[]] w (DoQ w (doR R0 M)) := by
  have H1 := hide h1
  have H2 := hide h2
  have HMC := hide MC
  clear h1 h2 MC
  obtain ⟨w0, hw0⟩ : ∃ w0, w0 = (w.alloc (.cells #[.string n.op, .string n.name, .slice n.iv.a n.iv.n n.iv.c, .string n.out, .slice n.av.a n.av.n n.av.c] 25)).alloc (.cells #[.int .i64 0, .slice none 0 0, .slice none 0 0] 32) := ⟨_, rfl⟩
  have g0 : Hid (w.grownBy w0 none) := by show w.grownBy w0 none; rw [hw0]; exact grown_trans (grown_new _ _) (grown_new _ _)
  have hbx := two_boxes w (.cells #[.string n.op, .string n.name, .slice n.iv.a n.iv.n n.iv.c, .string n.out, .slice n.av.a n.av.n n.av.c] 25) (.cells #[.int .i64 0, .slice none 0 0, .slice none 0 0] 32)
  rw [← hw0] at hbx
  have BN : Hid (∀ wx, w0.grownBy wx none → wx.heap[w.heap.size]? = some (.cells #[.string n.op, .string n.name, .slice n.iv.a n.iv.n n.iv.c, .string n.out, .slice n.av.a n.av.n n.av.c] 25 (0, 0))) := fun wx hg => box_kept hbx.1 hg
  have BX : Hid (∀ wx, w0.grownBy wx none → wx.heap[w.heap.size + 1]? = some (.cells #[.int .i64 0, .slice none 0 0, .slice none 0 0] 32 (0, 0))) := fun wx hg => box_kept hbx.2 hg
  have Z0 : Hid (w.heap.size + 1 < w0.heap.size) := (Array.getElem?_eq_some_iff.1 hbx.2).1
  have N1 := hide (NC w0 g0.out)
  clear hbx NC
  obtain ⟨op, nam, ⟨ia, il, ic⟩, out, ⟨ao, al, cap⟩⟩ := n
  obtain ⟨ua, un, uc⟩ := u
  unfold nval at HMC N1 ⊢
  simp only at HMC N1 BN hw0 ⊢
  go_enter Tryz.func17, Tryz.ntmps17
  go_wp2_with fail
  rw [← hw0]
  clear hw0
  refine N1.out.mono ?_
  rintro e w1 ⟨hg1, hq⟩
  have G1 := hide hg1
  cases R0 with
  | error c =>
    obtain rfl := hq
    have hc := H1.out c rfl
    have bc : (c != 0) = true := by simpa using hc
    obtain ⟨w2, hw2⟩ : ∃ w2, w2 = w1.alloc (.cells #[.string ⟨#[]⟩, .int .i64 0, .slice none 0 0] 50) := ⟨_, rfl⟩
    have g2 : w1.grownBy w2 none := by rw [hw2]; exact grown_new _ _
    have B1 := BX.out w2 (grown_trans hg1 g2)
    obtain ⟨f0, f1, f2⟩ := ten_frozen B1
    have c0 : w2.cell? ⟨w.heap.size + 1, 0, none⟩ = some (.int .i64 0) := (cell_of_row _ _ 0 _ _ (0, 0) B1).trans rfl
    have c1 : w2.cell? ⟨w.heap.size + 1, 1, none⟩ = some (.slice none 0 0) := (cell_of_row _ _ 1 _ _ (0, 0) B1).trans rfl
    have c2 : w2.cell? ⟨w.heap.size + 1, 2, none⟩ = some (.slice none 0 0) := (cell_of_row _ _ 2 _ _ (0, 0) B1).trans rfl
    obtain ⟨hX, gX⟩ := store3t (.int .i64 0) (.slice none 0 0) (.slice none 0 0) B1
    have HX := hide hX
    have GX := hide (grown_drop (grown_trans g0.out (grown_trans hg1 g2)) gX (by omega))
    rw [hw2] at f0 f1 f2 c0 c1 c2 HX GX
    clear hX gX B1 hc hg1 g2 hw2
    go_wp2
    refine bodyPost_ret (ret_ten2 rfl _ _ (w.heap.size + 1) rfl HX.out) rfl ?_
    exact do_err rfl GX.out
  | ok rr =>
    obtain ⟨ty, l⟩ := rr
    obtain ⟨⟨s1, s2, s3⟩, rfl, ho⟩ := hq
    obtain ⟨w2, hw2⟩ : ∃ w2, w2 = w1.alloc (.cells #[.string out, .int .i64 ty, .slice s1 s2 s3] 50) := ⟨_, rfl⟩
    have g2 : w1.grownBy w2 none := by rw [hw2]; exact grown_new _ _
    have hB2 := heap_alloc_new w1 (.cells #[.string out, .int .i64 ty, .slice s1 s2 s3] 50)
    rw [← hw2] at hB2
    have BV : Hid (∀ wx, w2.grownBy wx none → wx.heap[w1.heap.size]? = some (.cells #[.string out, .int .i64 ty, .slice s1 s2 s3] 50 (0, 0))) := fun wx hg => box_kept hB2 hg
    have HO := hide ho
    obtain ⟨n0, n1, n2, n3, n4⟩ := nod_cells (n := ⟨op, nam, ⟨ia, il, ic⟩, out, ⟨ao, al, cap⟩⟩) (BN.out w2 (grown_trans hg1 g2))
    have M1 := hide (HMC.out w2 ty ⟨s1, s2, s3⟩ l (grown_trans g0.out (grown_trans hg1 g2)) rfl (ho.ints.more g2))
    have G2 := hide (grown_trans hg1 g2)
    have G12 := hide g2
    simp only at n0 n1 n2 n3 n4 M1
    rw [hw2] at n0 n1 n2 n3 n4
    clear ho hg1 g2 hB2
    go_wp2_with fail
    rw [← hw2]
    clear hw2 n0 n1 n2 n3 n4
    refine M1.out.mono ?_
    rintro e w3 ⟨hg3, hq⟩
    have B3 := BX.out w3 (grown_trans G2.out hg3)
    have G3 := hide (grown_trans g0.out (grown_trans G2.out hg3))
    obtain ⟨f0, f1, f2⟩ := ten_frozen B3
    have c0 : w3.cell? ⟨w.heap.size + 1, 0, none⟩ = some (.int .i64 0) := (cell_of_row _ _ 0 _ _ (0, 0) B3).trans rfl
    have c1 : w3.cell? ⟨w.heap.size + 1, 1, none⟩ = some (.slice none 0 0) := (cell_of_row _ _ 1 _ _ (0, 0) B3).trans rfl
    have c2 : w3.cell? ⟨w.heap.size + 1, 2, none⟩ = some (.slice none 0 0) := (cell_of_row _ _ 2 _ _ (0, 0) B3).trans rfl
    obtain ⟨mr, hmr⟩ : ∃ mr, mr = M l := ⟨_, rfl⟩
    rw [← hmr] at hq
    have ED : Hid (doR (.ok (ty, l)) M = mr.map fun zs => (ty, l, zs)) := by rw [hmr]; rfl
    cases mr with
    | error c =>
      obtain rfl := hq
      have hc := H2.out l c hmr.symm
      have bc : (c != 0) = true := by simpa using hc
      obtain ⟨hX, gX⟩ := store3t (.int .i64 0) (.slice none 0 0) (.slice none 0 0) B3
      have HX := hide hX
      have GX := hide (grown_drop G3.out gX (by omega))
      clear hX gX B3 hc hg3 hmr
      go_wp2
      refine bodyPost_ret (ret_ten2 rfl _ _ (w.heap.size + 1) rfl HX.out) rfl ?_
      exact do_err ED.out GX.out
    | ok zs =>
      obtain ⟨⟨t1, t2, t3⟩, rfl, ht⟩ := hq
      have bv := BV.out w3 hg3
      have v1 : w3.cell? ⟨w1.heap.size, 1, none⟩ = some (.int .i64 ty) := (cell_of_row _ _ 1 _ _ (0, 0) bv).trans rfl
      have v2 : w3.cell? ⟨w1.heap.size, 2, none⟩ = some (.slice s1 s2 s3) := (cell_of_row _ _ 2 _ _ (0, 0) bv).trans rfl
      obtain ⟨hX, gX⟩ := store3t (.int .i64 ty) (.slice s1 s2 s3) (.slice t1 t2 t3) B3
      have HX := hide hX
      have GX := hide (grown_drop G3.out gX (by omega))
      have z0 := Z0.out
      have z1 := g0.out.size
      have z2 := G2.out.size
      have OD := hide (((HO.out.more (grown_trans G12.out hg3) (by cases (Sl.v ⟨s1, s2, s3⟩).ownBlock <;> simp)).base_le (b' := w0.heap.size) (Nat.le_refl _)).more gX (row_lt HO.out.1 (by omega)))
      have OT : Hid (OwnsE _ w2.heap.size (Sl.v ⟨t1, t2, t3⟩) zs) := ht.more gX (row_lt ht.1 (by omega))
      clear hX gX B3 hg3 hmr bv ht z0 z1 z2
      go_wp2
      refine bodyPost_ret (ret_ten2 rfl _ _ (w.heap.size + 1) rfl HX.out) rfl ?_
      exact do_ok (d := ⟨s1, s2, s3⟩) (t := ⟨t1, t2, t3⟩) ED.out GX.out (OD.out.base_le (by have := g0.out.size; omega)) ⟨ownsRow_base OT.out.1 (by have := g0.out.size; have := G2.out.size; omega), OT.out.2⟩

set_option maxRecDepth 100000 in
set_option maxHeartbeats 8000000 in
theorem ldo_any (n : Nod) (u : Sl) (r : R (Int × List Int × List Int)) (w : World) (BC : ∀ wx, w.grownBy wx none → Calls Tryz.prog 17 #[nval n, .slice u.a u.n u.c, .func (.func 20) #[] #[]] wx (DoQ wx r)) :
    Calls Tryz.prog 16 #[nval n, .slice u.a u.n u.c] w (DoQ w r) := by
  obtain ⟨w0, hw0⟩ : ∃ w0, w0 = (w.alloc (.cells #[.string n.op, .string n.name, .slice n.iv.a n.iv.n n.iv.c, .string n.out, .slice n.av.a n.av.n n.av.c] 25)).alloc (.cells #[.int .i64 0, .slice none 0 0, .slice none 0 0] 32) := ⟨_, rfl⟩
  have g0 : Hid (w.grownBy w0 none) := by show w.grownBy w0 none; rw [hw0]; exact grown_trans (grown_new _ _) (grown_new _ _)
  have hbx := two_boxes w (.cells #[.string n.op, .string n.name, .slice n.iv.a n.iv.n n.iv.c, .string n.out, .slice n.av.a n.av.n n.av.c] 25) (.cells #[.int .i64 0, .slice none 0 0, .slice none 0 0] 32)
  rw [← hw0] at hbx
  have BX : Hid (∀ wx, w0.grownBy wx none → wx.heap[w.heap.size + 1]? = some (.cells #[.int .i64 0, .slice none 0 0, .slice none 0 0] 32 (0, 0))) := fun wx hg => box_kept hbx.2 hg
  have Z0 : Hid (w.heap.size + 1 < w0.heap.size) := (Array.getElem?_eq_some_iff.1 hbx.2).1
  have N1 := hide (BC w0 g0.out)
  clear hbx BC
  obtain ⟨op, nam, ⟨ia, il, ic⟩, out, ⟨ao, al, cap⟩⟩ := n
  obtain ⟨ua, un, uc⟩ := u
  unfold nval at N1 ⊢
  simp only at N1 hw0 ⊢
  go_enter Tryz.func16, Tryz.ntmps16
  go_wp2_with fail
  rw [← hw0]
  clear hw0
  refine N1.out.mono ?_
  rintro e w3 ⟨hg3, hq⟩
  have B3 := BX.out w3 hg3
  have G3 := hide (grown_trans g0.out hg3)
  obtain ⟨f0, f1, f2⟩ := ten_frozen B3
  have c0 : w3.cell? ⟨w.heap.size + 1, 0, none⟩ = some (.int .i64 0) := (cell_of_row _ _ 0 _ _ (0, 0) B3).trans rfl
  have c1 : w3.cell? ⟨w.heap.size + 1, 1, none⟩ = some (.slice none 0 0) := (cell_of_row _ _ 1 _ _ (0, 0) B3).trans rfl
  have c2 : w3.cell? ⟨w.heap.size + 1, 2, none⟩ = some (.slice none 0 0) := (cell_of_row _ _ 2 _ _ (0, 0) B3).trans rfl
  cases r with
  | error c =>
    obtain rfl := hq
    obtain ⟨hX, gX⟩ := store3t (.int .i64 0) (.slice none 0 0) (.slice none 0 0) B3
    have HX := hide hX
    have GX := hide (grown_drop G3.out gX (by omega))
    clear hX gX B3 hg3
    go_wp2
    refine bodyPost_ret (ret_ten2 rfl _ _ (w.heap.size + 1) rfl HX.out) rfl ?_
    exact do_err rfl GX.out
  | ok rr =>
    obtain ⟨ty, l, zs⟩ := rr
    obtain ⟨⟨ty', ⟨s1, s2, s3⟩, ⟨t1, t2, t3⟩⟩, e1, rfl, hd, ht⟩ := hq
    simp only at e1
    subst e1
    obtain ⟨hX, gX⟩ := store3t (.int .i64 ty') (.slice s1 s2 s3) (.slice t1 t2 t3) B3
    have HX := hide hX
    have GX := hide (grown_drop G3.out gX (by omega))
    have OD := hide (hd.more gX (row_lt hd.1 Z0.out))
    have OT := hide (ht.more gX (row_lt ht.1 Z0.out))
    clear hX gX B3 hg3 hd ht
    unfold tval
    go_wp2
    refine bodyPost_ret (ret_ten2 rfl _ _ (w.heap.size + 1) rfl HX.out) rfl ?_
    exact do_ok (d := ⟨s1, s2, s3⟩) (t := ⟨t1, t2, t3⟩) rfl GX.out (OD.out.base_le (by have := g0.out.size; omega)) ⟨ownsRow_base OT.out.1 (by have := g0.out.size; omega), OT.out.2⟩

end Go.Proofs.YtaoplfpigjkgpaaGreatDoor
