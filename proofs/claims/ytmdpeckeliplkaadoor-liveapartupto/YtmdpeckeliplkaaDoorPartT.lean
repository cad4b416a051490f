/- Joined texts: LvDoc, LvDocB. -/
import Derived.Test.YtmdpeckeliplkaaDoorLvDocPJ
import Derived.Test.YtmdpeckeliplkaaDoorPartO
import Derived.Deep.AppendLies
import Derived.Deep.RegionLaw
/- The document's order of nodes and who reads a name, by the walk. -/
namespace Go.Proofs.YtmdpeckeliplkaaDoor
open Go.RowKit

set_option maxRecDepth 100000 in
set_option maxHeartbeats 1600000 in
theorem dreads_any (c : Nc) (x : ByteArray) (w : World) (h : IsStrs w c.n.iv.v c.ins) : Calls Tryd.prog 25 #[nval c.n, .string x] w fun e w' => e = .returned (.bool (rdsF c x)) ∧ w.grownBy w' none := by
  obtain ⟨⟨op, nam, ⟨ia, iN, ic⟩, out, ⟨da, dN, dc⟩⟩, ins, cxs, ccs⟩ := c
  simp only at h
  obtain ⟨xa, xc, e1, y1, y2, y3⟩ := h.form
  obtain ⟨rfl, rfl, rfl⟩ : ia = xa ∧ iN = ins.length ∧ ic = xc := by simpa [Sl.v] using e1
  have HV := hide h
  have HR : Hid (rdsF ⟨⟨op, nam, ⟨ia, ins.length, ic⟩, out, ⟨da, dN, dc⟩⟩, ins, cxs, ccs⟩ x = ins.any (fun y => y.toList == x.toList)) := rfl
  obtain ⟨RF, hRF⟩ : ∃ RF, RF = rdsF ⟨⟨op, nam, ⟨ia, ins.length, ic⟩, out, ⟨da, dN, dc⟩⟩, ins, cxs, ccs⟩ x := ⟨_, rfl⟩
  rw [← hRF] at HR ⊢
  clear h e1 hRF
  unfold nval
  simp only
  obtain ⟨w0, hw0⟩ : ∃ w0, w0 = w.alloc (.cells #[.string op, .string nam, .slice ia ins.length ic, .string out, .slice da dN dc] 52) := ⟨_, rfl⟩
  have g0 : Hid (w.grownBy w0 none) := by show w.grownBy w0 none; rw [hw0]; exact grown_new _ _
  have b0 := heap_alloc_new w (.cells #[.string op, .string nam, .slice ia ins.length ic, .string out, .slice da dN dc] 52)
  rw [← hw0] at b0
  obtain ⟨n0, n1, n2, n3, n4⟩ := nod_cells (n := ⟨op, nam, ⟨ia, ins.length, ic⟩, out, ⟨da, dN, dc⟩⟩) b0
  simp only at n2
  go_enter Tryd.func25, Tryd.ntmps25
  go_wp2_with fail
  rw [← hw0]
  clear hw0 b0 n0 n1 n3 n4
  go_loopw [5] (fun i wr => wr = w0 ∧ ∃ k : Nat, k ≤ ins.length ∧ i = .int .i64 k ∧ (ins.take k).any (fun y => y.toList == x.toList) = false) (fun i _ => ins.length - (intOf i).toNat)
  case atStart => exact ⟨rfl, 0, Nat.zero_le _, rfl, rfl⟩
  case round =>
    obtain ⟨rfl, k, hk, rfl, hall⟩ := hrel
    have HALL := hide hall
    clear hall
    by_cases hlt : k < ins.length
    · have HVk := HV.out.more g0.out
      obtain ⟨vb, vo, rfl⟩ := HVk.addr hlt
      have a0 := str_at HVk k hlt
      have HK : Hid (ins[k]? = some ins[k]) := List.getElem?_eq_getElem hlt
      obtain ⟨X, hX⟩ : ∃ X, X = ins[k] := ⟨_, rfl⟩
      rw [← hX] at a0 HK
      clear HVk hX
      cases ht : (X.toList == x.toList) with
      | true =>
        have E : Hid (RF = true) := by show _ = _; rw [HR.out, List.any_eq_true]; exact ⟨X, List.mem_of_getElem? HK.out, ht⟩
        go_wp2_with fail
        go_ret
        exact ⟨by rw [E.out]; rfl, g0.out⟩
      | false =>
        have HN : Hid ((ins.take (k + 1)).any (fun y => y.toList == x.toList) = false) := by show _ = _; rw [List.take_add_one, List.any_append, HALL.out, HK.out]; simp [ht]
        go_wp2_with fail
        go_roundw
        case rel => exact ⟨by trivial, k + 1, by omega, by go_num, HN.out⟩
        case measure => simp [intOf]; omega
    · obtain rfl : k = ins.length := by omega
      have E : Hid (RF = false) := by show _ = _; have := HALL.out; rw [List.take_of_length_le (Nat.le_refl _)] at this; rw [HR.out]; exact this
      go_wp2_with fail
      go_ret
      exact ⟨by rw [E.out]; rfl, g0.out⟩

theorem ret_gra2 {fn : Func} {p u : Tmp} (h : fn.results = #[.cell p 26, .tmp u]) (tmps : Array Value) (w : World) (B : Nat) (hp : tmps.getD p undef = .pointer (some ⟨B, 0, none⟩)) {a0 a1 a2 a3 a4 : Value}
    (hb : w.heap[B]? = some (.cells #[a0, a1, a2, a3, a4] 26 (0, 0))) : (results fn tmps).run Tryd.prog w = .ok (.tuple #[.agg #[a0, a1, a2, a3, a4], tmps.getD u undef]) w := by
  have hl := run_loadVar_row (P := Tryd.prog) w B _ 26 #[a0, a1, a2, a3, a4] (0, 0) _ hb Tryd.underlying26 rfl (by rw [graInfo]; rfl)
  rw [results_cell_tmp h, hp]
  simp [asAddr, hl, Result.andThen]

theorem store5 {w3 : World} {B : Nat} {z0 z1 z2 z3 z4 : Value} {t : TypeId} (a b c d e : Value) (hb : w3.heap[B]? = some (.cells #[z0, z1, z2, z3, z4] t (0, 0))) :
    (((((w3.setCell ⟨B, 0, none⟩ a).setCell ⟨B, 1, none⟩ b).setCell ⟨B, 2, none⟩ c).setCell ⟨B, 3, none⟩ d).setCell ⟨B, 4, none⟩ e).heap[B]? = some (.cells #[a, b, c, d, e] t (0, 0)) ∧ w3.grownBy (((((w3.setCell ⟨B, 0, none⟩ a).setCell ⟨B, 1, none⟩ b).setCell ⟨B, 2, none⟩ c).setCell ⟨B, 3, none⟩ d).setCell ⟨B, 4, none⟩ e) (some B) := by
  have h1 := heap_setCell_same w3 B 0 _ _ a hb
  have h2 := heap_setCell_same _ B 1 _ _ b h1
  have h3 := heap_setCell_same _ B 2 _ _ c h2
  have h4 := heap_setCell_same _ B 3 _ _ d h3
  have h5 := heap_setCell_same _ B 4 _ _ e h4
  have g : ∀ (x : World) (j : Nat) (v : Value), x.grownBy (x.setCell ⟨B, j, none⟩ v) (some B) := fun x j v =>
    ⟨rfl, rfl, rfl, by simp [World.setCell], fun k _ hk => Below.heap_setCell _ _ _ _ (fun e => hk (by rw [e]))⟩
  exact ⟨by simpa using h5, grown_same (grown_same (grown_same (grown_same (g w3 0 a) (g _ 1 b)) (g _ 2 c)) (g _ 3 d)) (g _ 4 e)⟩

/-- How Sorted ends. -/
def Sorts (nam : ByteArray) (iv ov tv : Sl) (cs : List Nc) (vin vout : List (Val × List Int)) (its : List (Nam × List Int × List Int)) (w : World) (e : Ending) (w' : World) : Prop :=
  w.grownBy w' none ∧ (((orderR cs vin vout its).2 ≠ 0 ∧ e = .returned (.tuple #[.agg #[.string ⟨#[]⟩, .slice none 0 0, .slice none 0 0, .slice none 0 0, .slice none 0 0], .int .i64 (orderR cs vin vout its).2])) ∨
    ((orderR cs vin vout its).2 = 0 ∧ ∃ u : Sl, e = .returned (.tuple #[.agg #[.string nam, .slice u.a u.n u.c, .slice iv.a iv.n iv.c, .slice ov.a ov.n ov.c, .slice tv.a tv.n tv.c], .int .i64 0]) ∧ OwnsL 52 5 ncells w' w.heap.size u.v ((inOrd cs (lineF cs vin its)).map (·.n))))

/-- Where Sorted stands: the graph's box, and the nodes that are in it. -/
structure SO (w wr : World) (base B : Nat) (nam : ByteArray) (iv ov tv u : Sl) (L : List Nod) : Prop where
  grown : w.grownBy wr none
  box : wr.heap[B]? = some (.cells #[.string nam, .slice u.a u.n u.c, .slice iv.a iv.n iv.c, .slice ov.a ov.n ov.c, .slice tv.a tv.n tv.c] 26 (0, 0))
  own : OwnsL 52 5 ncells wr base u.v L
  lb : w.heap.size ≤ base
  lB : w.heap.size ≤ B

theorem SO.app {w wr w8 : World} {base B : Nat} {nam : ByteArray} {iv ov tv u : Sl} {L : List Nod} (h : SO w wr base B nam iv ov tv u L) (o : Obj) {gg cap : Nat} {x : Nod} (hg : ((wr.alloc o).drew).grownBy w8 u.v.ownBlock) (ho : w8.ownsRow base 52 5 (.slice (some ⟨gg, 0, none⟩) (L.length + 1) cap) (L.length + 1) (L.flatMap ncells ++ ncells x)) :
    SO w (w8.setCell ⟨B, 1, none⟩ (.slice (some ⟨gg, 0, none⟩) (L.length + 1) cap)) base B nam iv ov tv ⟨some ⟨gg, 0, none⟩, L.length + 1, cap⟩ (L ++ [x]) := by
  have g1 : wr.grownBy (wr.alloc o).drew none := grown_drew (grown_new _ _)
  have hne : ∀ g, u.v.ownBlock = some g → g ≠ B := fun g e e2 => by
    rcases h.own.2 with ⟨e3, -⟩ | ⟨x, c, cur, e3, -, hx, -⟩
    · rw [e3] at e; cases e
    · rw [e3] at e
      obtain rfl : x = g := by simpa [Value.ownBlock] using e
      subst e2
      have := h.box
      rw [hx] at this
      exact absurd (Obj.cells.inj (Option.some.inj this)).2.1 (by decide)
  have bx : w8.heap[B]? = some (.cells #[.string nam, .slice u.a u.n u.c, .slice iv.a iv.n iv.c, .slice ov.a ov.n ov.c, .slice tv.a tv.n tv.c] 26 (0, 0)) := by
    have b1 := (g1.block B (heap_lt h.box) (by simp)).trans h.box
    exact (hg.block B (heap_lt b1) (fun e => hne B e.symm rfl)).trans b1
  have b2 := heap_setCell_same w8 B 1 _ _ (.slice (some ⟨gg, 0, none⟩) (L.length + 1) cap) bx
  have g2 : w8.grownBy (w8.setCell ⟨B, 1, none⟩ (.slice (some ⟨gg, 0, none⟩) (L.length + 1) cap)) (some B) := ⟨rfl, rfl, rfl, by simp [World.setCell], fun k _ hk => Below.heap_setCell _ _ _ _ (fun e => hk (by rw [e]))⟩
  have ne2 : gg ≠ B := by
    rintro rfl
    rcases ho.2 with ⟨e3, -⟩ | ⟨x, c, cur, e3, -, hx, -⟩
    · cases e3
    · obtain rfl : gg = x := by simpa using (Value.slice.inj e3).1
      rw [bx] at hx
      exact absurd (Obj.cells.inj (Option.some.inj hx)).2.1 (by decide)
  refine ⟨grown_trans_row (grown_trans_row (grown_trans h.grown g1) hg (fun g e => by have := (World.ownsRow.lt h.own g e).1; have := h.lb; omega)) g2 (fun g e => by injection e with e; have := h.lB; omega), by simpa using b2, ?_, h.lb, h.lB⟩
  have k : OwnsL 52 5 ncells w8 base (.slice (some ⟨gg, 0, none⟩) (L.length + 1) cap) (L ++ [x]) := by
    unfold OwnsL
    rw [List.length_append, List.flatMap_append]
    simpa using ho
  exact World.ownsRow.kept k g2 (Or.inr (by simpa [Value.ownBlock] using ne2))

set_option maxRecDepth 100000 in
set_option maxHeartbeats 6400000 in
theorem sorted_any (g : Gra) (cs : List Nc) (vin vout : List (Val × List Int)) (its : List (Nam × List Int × List Int)) (w : World) (hg : GraphOk w g cs vin vout its) :
    Calls Tryd.prog 24 #[gval g] w fun e w' => Sorts g.name g.iv g.ov g.tv cs vin vout its w e w' := by
  obtain ⟨i5, hi5, hn0, hn1, hn2⟩ := info_parts infoNode
  obtain ⟨f1, f2, f3, f4⟩ := hg.base.few
  have e1 : g.nv.n = cs.length := by obtain ⟨_, _, e, -⟩ := hg.base.nodes.form; rw [List.length_map] at e; simp only [Sl.v, Value.slice.injEq] at e; exact e.2.1
  have HOR := hide (fun (wx : World) (hx : w.grownBy wx none) => dorder_any g cs vin vout its wx (hg.more hx))
  have HG := hide hg
  obtain ⟨nam, ⟨na0, nn0, nc0⟩, ⟨ia, iN, ic⟩, ⟨oa, oN, oc⟩, ⟨ta, tN, tc⟩⟩ := g
  have e1 : nn0 = cs.length := e1
  subst e1
  clear hg
  unfold gval at HOR ⊢
  simp only at HOR ⊢
  obtain ⟨w0, hw0⟩ : ∃ w0, w0 = (w.alloc (.cells #[.string nam, .slice na0 cs.length nc0, .slice ia iN ic, .slice oa oN oc, .slice ta tN tc] 26)).alloc (.cells #[.string ⟨#[]⟩, .slice none 0 0, .slice none 0 0, .slice none 0 0, .slice none 0 0] 26) := ⟨_, rfl⟩
  have g0 : w.grownBy w0 none := by rw [hw0]; exact grown_trans (grown_new _ _) (grown_new _ _)
  have b0 := two_boxes w (.cells #[.string nam, .slice na0 cs.length nc0, .slice ia iN ic, .slice oa oN oc, .slice ta tN tc] 26) (.cells #[.string ⟨#[]⟩, .slice none 0 0, .slice none 0 0, .slice none 0 0, .slice none 0 0] 26)
  rw [← hw0] at b0
  have BX : Hid (∀ wx, w0.grownBy wx none → wx.heap[w.heap.size]? = some (.cells #[.string nam, .slice na0 cs.length nc0, .slice ia iN ic, .slice oa oN oc, .slice ta tN tc] 26 (0, 0))) := fun wx hx => box_kept b0.1 hx
  have BR : Hid (∀ wx, w0.grownBy wx none → wx.heap[w.heap.size + 1]? = some (.cells #[.string ⟨#[]⟩, .slice none 0 0, .slice none 0 0, .slice none 0 0, .slice none 0 0] 26 (0, 0))) := fun wx hx => box_kept b0.2 hx
  have HSz : Hid (w0.heap.size = w.heap.size + 1 + 1) := by show _ = _; rw [hw0]; simp
  clear b0
  obtain ⟨r0, r1, r2, r3, r4⟩ := gra_cells (g := ⟨nam, ⟨na0, cs.length, nc0⟩, ⟨ia, iN, ic⟩, ⟨oa, oN, oc⟩, ⟨ta, tN, tc⟩⟩) (BX.out w0 (grown_refl _))
  rw [hw0] at r0 r1 r2 r3 r4
  go_enter Tryd.func24, Tryd.ntmps24
  go_wp2_with fail
  rw [← hw0]
  clear hw0 r0 r1 r2 r3 r4
  refine (HOR.out w0 g0).mono ?_
  rintro e w1 ⟨⟨ua, un, uc⟩, rfl, ho, hg1⟩
  obtain ⟨ua', uc', hov⟩ := own_form ho.1
  obtain ⟨rfl, rfl, rfl⟩ : ua = ua' ∧ un = (orderR cs vin vout its).1.length ∧ uc = uc' := by simpa [Sl.v] using hov
  simp only [Sl.v] at ho ⊢
  have hb := BR.out w1 hg1
  obtain ⟨y0, y1, y2, y3, y4⟩ := gra_cells (g := ⟨⟨#[]⟩, nilS, nilS, nilS, nilS⟩) hb
  have z0 := frozen_of_row _ _ 0 _ _ hb
  have z1 := frozen_of_row _ _ 1 _ _ hb
  have z2 := frozen_of_row _ _ 2 _ _ hb
  have z3 := frozen_of_row _ _ 3 _ _ hb
  have z4 := frozen_of_row _ _ 4 _ _ hb
  have HB := hide hb
  clear hb
  by_cases hz : (orderR cs vin vout its).2 = 0
  · obtain ⟨k1, k2, k3, k4, k5⟩ := orderR_ok hz
    obtain ⟨m1, m2, -⟩ := line_law (cs := cs) (vin := vin) (its := its) (fun c hc => (HG.out.is c hc).1) (fun c hc x hx => by
      have hfo := k4
      unfold foundF at hfo
      simp only [Bool.and_eq_true, List.all_eq_true] at hfo
      have := hfo.2 c hc
      unfold allF at this
      rw [List.all_eq_true] at this
      exact this x hx)
    have HEND : Hid (∀ e w', (w.grownBy w' none ∧ ∃ u : Sl, e = .returned (.tuple #[.agg #[.string nam, .slice u.a u.n u.c, .slice ia iN ic, .slice oa oN oc, .slice ta tN tc], .int .i64 0]) ∧ OwnsL 52 5 ncells w' w.heap.size u.v ((inOrd cs (lineF cs vin its)).map (·.n))) → Sorts nam ⟨ia, iN, ic⟩ ⟨oa, oN, oc⟩ ⟨ta, tN, tc⟩ cs vin vout its w e w') := fun e w' h => ⟨h.1, Or.inr ⟨hz, h.2⟩⟩
    have HAT : Hid (∀ k (hk : k < (lineF cs vin its).length) (hk2 : k < (inOrd cs (lineF cs vin its)).length), (inOrd cs (lineF cs vin its))[k] = cs.getD ((lineF cs vin its)[k]).toNat noNc) := fun k hk hk2 => by simp [inOrd]
    have HLn : Hid ((inOrd cs (lineF cs vin its)).length = cs.length) := by show _ = _; rw [inOrd_len]; exact k2
    rw [hz]
    rw [k1] at ho ⊢
    obtain ⟨L, hL⟩ : ∃ L, L = lineF cs vin its := ⟨_, rfl⟩
    rw [← hL] at HEND HAT HLn ho k2 m2 ⊢
    obtain ⟨ns, hns⟩ : ∃ ns, ns = inOrd cs L := ⟨_, rfl⟩
    rw [← hns] at HEND HAT HLn
    have HI := hide ho.ints
    have HMR := hide m2
    have HL2 := hide k2
    rw [k2] at HI ⊢
    have g01 := grown_trans g0 hg1
    have G01 := hide g01
    have HG1 := hide hg1
    obtain ⟨r0, r1, r2, r3, r4⟩ := gra_cells (g := ⟨nam, ⟨na0, cs.length, nc0⟩, ⟨ia, iN, ic⟩, ⟨oa, oN, oc⟩, ⟨ta, tN, tc⟩⟩) (BX.out w1 hg1)
    have bn := heap_alloc_new w1 (.cells #[.string nam, .slice none 0 0, .slice ia iN ic, .slice oa oN oc, .slice ta tN tc] 26)
    have ST0 : Hid (SO w (w1.alloc (.cells #[.string nam, .slice none 0 0, .slice ia iN ic, .slice oa oN oc, .slice ta tN tc] 26)) w1.heap.size w1.heap.size nam ⟨ia, iN, ic⟩ ⟨oa, oN, oc⟩ ⟨ta, tN, tc⟩ nilS []) :=
      ⟨grown_trans g01 (grown_new _ _), bn, OwnsL.nil .., g01.size, g01.size⟩
    clear hz k1 k2 k3 k4 m1 m2 ho hL hns hov HOR bn g01
    go_wp2_with fail
    clear r0 r1 r2 r3 r4 y0 y1 y2 y3 y4 z0 z1 z2 z3 z4 HB
    have G2 : Hid (w1.grownBy (w1.alloc (.cells #[.string nam, .slice none 0 0, .slice ia iN ic, .slice oa oN oc, .slice ta tN tc] 26)) none) := grown_new _ _
    generalize w1.alloc (.cells #[.string nam, .slice none 0 0, .slice ia iN ic, .slice oa oN oc, .slice ta tN tc] 26) = w2 at ST0 G2 ⊢
    have hge1 : Hid (w0.heap.size ≤ w1.heap.size) := HG1.out.size
    obtain ⟨B, hB⟩ : ∃ B, B = w1.heap.size := ⟨_, rfl⟩
    rw [← hB] at ST0 hge1 ⊢
    have HBq := hide hB
    clear hB
    go_loopg [7] cs.length (fun gh i wr => ∃ (k : Nat) (u : Sl), gh = cs.length - k ∧ k ≤ cs.length ∧ i = .int .i64 k ∧ w1.grownBy wr none ∧ SO w wr B B nam ⟨ia, iN, ic⟩ ⟨oa, oN, oc⟩ ⟨ta, tN, tc⟩ u ((ns.map (·.n)).take k))
    case atStart => exact ⟨0, nilS, rfl, Nat.zero_le _, rfl, G2.out, by rw [List.take_zero]; exact ST0.out⟩
    case round =>
      obtain ⟨k, u, hgk, hk, rfl, hgw, hst⟩ := hrel
      have HST := hide hst
      have GW := hide hgw
      clear hst hgw
      have GW0 := hide (grown_trans HG1.out GW.out)
      by_cases hlt : k < cs.length
      · obtain ⟨vb, vo, rfl, s0⟩ := int_at (HI.out.more GW.out) (k := k) (by rw [HL2.out]; exact hlt)
        have hz := HMR.out _ (List.getElem_mem (show k < L.length by rw [HL2.out]; exact hlt))
        have hat := HAT.out k (by rw [HL2.out]; exact hlt) (by rw [HLn.out]; exact hlt)
        obtain ⟨z, hzz⟩ : ∃ z, z = L[k]'(by rw [HL2.out]; exact hlt) := ⟨_, rfl⟩
        rw [← hzz] at s0 hz hat
        obtain ⟨m, rfl⟩ : ∃ m : Nat, z = (m : Int) := ⟨z.toNat, by omega⟩
        rw [Int.toNat_natCast] at hat
        have hm : m < cs.length := by omega
        have hm0 : (0 : Int) ≤ (m : Int) := Int.natCast_nonneg _
        have hm1 : (m : Int) < (cs.length : Int) := by omega
        rw [List.getD, List.getElem?_eq_getElem hm] at hat
        have hat : ns[k]'(by rw [HLn.out]; exact hlt) = cs[m] := hat
        have HTK : Hid ((ns.map (·.n)).take (k + 1) = (ns.map (·.n)).take k ++ [(cs[m]).n]) := by
          show _ = _
          rw [List.take_add_one, List.getElem?_map, List.getElem?_eq_getElem (by rw [HLn.out]; exact hlt), hat]
          rfl
        have HLt : Hid (((ns.map (·.n)).take k).length = k) := by show _ = _; rw [List.length_take, List.length_map, HLn.out]; omega
        have HLk := HG.out.base.nodes.more (grown_trans G01.out GW.out)
        obtain ⟨b9, off, hna⟩ := HLk.addr (k := m) (by rw [List.length_map]; exact hm)
        have hna : na0 = some ⟨b9, off, none⟩ := hna
        subst hna
        obtain ⟨a0, a1, a2, a3, a4⟩ := HLk.nod m (by rw [List.length_map]; exact hm)
        rw [List.getElem_map] at a0 a1 a2 a3 a4
        obtain ⟨C, hC⟩ : ∃ C, C = (cs[m]).n := ⟨_, rfl⟩
        rw [← hC] at a0 a1 a2 a3 a4 HTK
        clear HLk hC hat hz hzz
        obtain ⟨cop, cnam, ⟨ca, cN, cc⟩, cout, ⟨da, dN, dc⟩⟩ := C
        simp only at a0 a1 a2 a3 a4 HTK
        obtain ⟨M, hM⟩ : ∃ M, M = (ns.map (·.n)).take k := ⟨_, rfl⟩
        rw [← hM] at HST HTK HLt
        clear hM
        obtain ⟨sa, sn, sc⟩ := u
        have HO := hide HST.out.own
        obtain ⟨sa', sc', hsv⟩ := OwnsL.form HO.out
        obtain ⟨rfl, rfl, rfl⟩ : sa = sa' ∧ sn = M.length ∧ sc = sc' := by simpa [Sl.v] using hsv
        simp only [Sl.v] at HO
        have hMl : M.length ≤ 1048576 := by have := HLt.out; omega
        clear hsv
        have KS : Hid (∀ wx, wr.grownBy wx (Value.slice sa M.length sc).ownBlock → wx.cell? ⟨B, 1, none⟩ = some (.slice sa M.length sc) ∧ wx.frozen? ⟨B, 1, none⟩ = false ∧ wx.cell? ⟨w.heap.size, 1, none⟩ = some (.slice (some ⟨b9, off, none⟩) cs.length nc0) ∧ wx.cell? ⟨vb, vo + k, none⟩ = some (.int .i64 (m : Int)) ∧ wx.cell? ⟨b9, off + m * 5, none⟩ = some (.string cop) ∧ wx.cell? ⟨b9, off + m * 5 + 1, none⟩ = some (.string cnam) ∧ wx.cell? ⟨b9, off + m * 5 + 2, none⟩ = some (.slice ca cN cc) ∧ wx.cell? ⟨b9, off + m * 5 + 3, none⟩ = some (.string cout) ∧ wx.cell? ⟨b9, off + m * 5 + 4, none⟩ = some (.slice da dN dc)) := fun wx hx => by
          have hne : ∀ g, (Value.slice sa M.length sc).ownBlock = some g → g ≠ B ∧ B ≤ g := fun g e => by
            refine ⟨fun e2 => ?_, (World.ownsRow.lt HO.out g e).1⟩
            rcases HO.out.2 with ⟨e3, -⟩ | ⟨x, c, cur, e3, -, hx, -⟩
            · rw [e3] at e; cases e
            · rw [e3] at e
              obtain rfl : x = g := by simpa [Value.ownBlock] using e
              subst e2
              have := HST.out.box
              rw [hx] at this
              exact absurd (Obj.cells.inj (Option.some.inj this)).2.1 (by decide)
          have bx : wx.heap[B]? = some (.cells #[.string nam, .slice sa M.length sc, .slice ia iN ic, .slice oa oN oc, .slice ta tN tc] 26 (0, 0)) := (hx.block B (heap_lt HST.out.box) (fun e => (hne B e.symm).1 rfl)).trans HST.out.box
          have hw1 : w1.grownBy wx none := grown_trans_row GW.out hx (fun g e => by have := (hne g e).2; have := HBq.out; omega)
          obtain ⟨r0, r1, r2, r3, r4⟩ := gra_cells (g := ⟨nam, ⟨some ⟨b9, off, none⟩, cs.length, nc0⟩, ⟨ia, iN, ic⟩, ⟨oa, oN, oc⟩, ⟨ta, tN, tc⟩⟩) (BX.out wx (grown_trans HG1.out hw1))
          have up : ∀ {ad : Addr} {v : Value}, ad.block < B → wr.cell? ad = some v → wx.cell? ad = some v := fun {ad v} h1 h2 => (World.cell?_of_block (hx.block ad.block (World.block_lt_of_cell? wr _ h2) (fun e => by have := (hne ad.block e.symm).2; omega))).trans h2
          have l1 : vb < B := by
            obtain ⟨b1, o1, e1, c1⟩ := int_at HI.out (k := k) (by rw [HL2.out]; exact hlt)
            have := World.block_lt_of_cell? w1 _ c1
            have e2 : vb = b1 := by injection e1 with e1; injection e1
            rw [HBq.out, e2]
            exact this
          have l2 : b9 < B := by
            have hh := (HG.out.base.nodes.more G01.out).nod m (by rw [List.length_map]; exact hm)
            have := World.block_lt_of_cell? w1 _ hh.1
            rw [HBq.out]
            exact this
          exact ⟨(cell_of_row _ _ 1 _ _ (0, 0) bx).trans rfl, frozen_of_row _ _ 1 _ _ bx, r1, up l1 s0, up l2 a0, up l2 a1, up l2 a2, up l2 a3, up l2 a4⟩
        obtain ⟨q1, q2, q3, q4, q5, q6, q7, q8, q9⟩ := KS.out wr (World.grownBy.refl _ _)
        obtain ⟨p1, p2, p3, p4, p5, p6, p7, p8, p9⟩ := KS.out (wr.alloc (.cells #[.string cop, .string cnam, .slice ca cN cc, .string cout, .slice da dN dc] 52)) (grown_allocr (World.grownBy.refl _ _) _)
        have OW : Hid (∀ o, ((wr.alloc o).drew).ownsRow B 52 5 (.slice sa M.length sc) M.length (M.flatMap ncells)) := fun o => (World.ownsRow.alloc HO.out _).drew
        have GA : Hid (∀ o row, wr.grownBy (wr.alloc o).drew row) := fun o row => grown_drewr (grown_allocr (World.grownBy.refl _ _) _)
        have hbs : B ≤ wr.heap.size := Nat.le_of_lt (heap_lt HST.out.box)
        have AP : Hid (∀ (w8 : World) (gg cap : Nat), ((wr.alloc (.cells #[.string cop, .string cnam, .slice ca cN cc, .string cout, .slice da dN dc] 52)).drew).grownBy w8 (Value.slice sa M.length sc).ownBlock → w8.ownsRow B 52 5 (.slice (some ⟨gg, 0, none⟩) (M.length + 1) cap) (M.length + 1) (M.flatMap ncells ++ [.string cop, .string cnam, .slice ca cN cc, .string cout, .slice da dN dc]) →
            w1.grownBy (w8.setCell ⟨B, 1, none⟩ (.slice (some ⟨gg, 0, none⟩) (M.length + 1) cap)) none ∧ SO w (w8.setCell ⟨B, 1, none⟩ (.slice (some ⟨gg, 0, none⟩) (M.length + 1) cap)) B B nam ⟨ia, iN, ic⟩ ⟨oa, oN, oc⟩ ⟨ta, tN, tc⟩ ⟨some ⟨gg, 0, none⟩, M.length + 1, cap⟩ (M ++ [⟨cop, cnam, ⟨ca, cN, cc⟩, cout, ⟨da, dN, dc⟩⟩])) := by
          intro w8 gg cap hg ho
          have g2 : w8.grownBy (w8.setCell ⟨B, 1, none⟩ (.slice (some ⟨gg, 0, none⟩) (M.length + 1) cap)) (some B) := ⟨rfl, rfl, rfl, by simp [World.setCell], fun k _ hk => Below.heap_setCell _ _ _ _ (fun e => hk (by rw [e]))⟩
          refine ⟨grown_trans_row (grown_trans_row (grown_trans GW.out (GA.out _ none)) hg (fun g e => by have := (World.ownsRow.lt HO.out g e).1; have := HBq.out; omega)) g2 (fun g e => by injection e with e; have := HBq.out; omega), HST.out.app _ hg ho⟩
        clear a0 a1 a2 a3 a4 s0
        go_wp2_with fail
        go_region_law (refine step_append_lies _ (by rfl) (.tmp 26) (.tmp 35) 22 (by rfl) B 52 i5 (.agg #[.string ⟨#[]⟩, .string ⟨#[]⟩, .slice none 0 0, .string ⟨#[]⟩, .slice none 0 0]) 5 96 Tryd.underlying22 hi5 hn0 hn1 hn2 (by rfl) (by decide) (.slice sa M.length sc) M.length (M.flatMap ncells) (by rfl) (by exact OW.out _) ⟨wr.heap.size, 0, none⟩ 1 1 [.string cop, .string cnam, .slice ca cN cc, .string cout, .slice da dN dc] (by rfl) (by rfl) (by exact World.news_of_block (heap_alloc_new wr _)) (by simp [Value.oneCell']) (by omega) (by simp only [maxLen]; omega) (by omega) (by simp; omega) (wr.heap.size + 1) (by simp) ?_; intro gg cap w8 hown8 hgrow hat hlt8; obtain ⟨t1, t2, t3, t4, t5, t6, t7, t8, t9⟩ := KS.out w8 (World.grownBy.trans (GA.out _ _) hgrow))
        all_goals
          have FIN := hide (AP.out w8 gg cap hgrow hown8)
          clear hgrow hown8 hat hlt8 t1 t2 t3 t4 t5 t6 t7 t8 t9 p1 p2 p3 p4 p5 p6 p7 p8 p9 q1 q2 q3 q4 q5 q6 q7 q8 q9
          go_wp2_with fail
          go_roundg (cs.length - (k + 1))
          case measure => omega
          case rel => exact ⟨k + 1, _, rfl, by omega, by go_num, FIN.out.1, by rw [HTK.out]; exact FIN.out.2⟩
      · obtain rfl : k = cs.length := by omega
        rw [List.take_of_length_le (by rw [List.length_map, HLn.out]; exact Nat.le_refl _)] at HST
        have hb := BR.out wr GW0.out
        obtain ⟨y0, y1, y2, y3, y4⟩ := gra_cells (g := ⟨⟨#[]⟩, nilS, nilS, nilS, nilS⟩) hb
        have z0 := frozen_of_row _ _ 0 _ _ hb
        have z1 := frozen_of_row _ _ 1 _ _ hb
        have z2 := frozen_of_row _ _ 2 _ _ hb
        have z3 := frozen_of_row _ _ 3 _ _ hb
        have z4 := frozen_of_row _ _ 4 _ _ hb
        obtain ⟨ua, un, uc⟩ := u
        obtain ⟨q0, q1, q2, q3, q4⟩ := gra_cells (g := ⟨nam, ⟨ua, un, uc⟩, ⟨ia, iN, ic⟩, ⟨oa, oN, oc⟩, ⟨ta, tN, tc⟩⟩) HST.out.box
        have HB := hide hb
        clear hb
        go_wp2_with fail
        obtain ⟨hX, gX⟩ := store5 (.string nam) (.slice ua un uc) (.slice ia iN ic) (.slice oa oN oc) (.slice ta tN tc) HB.out
        refine bodyPost_ret (ret_gra2 rfl _ _ (w.heap.size + 1) rfl hX) rfl ?_
        have hs := HSz.out
        have hw := hge1.out
        refine HEND.out _ _ ⟨grown_trans_row HST.out.grown gX (fun g e => by injection e with e; omega), ⟨ua, un, uc⟩, rfl, ?_⟩
        exact OwnsL.base_le (World.ownsRow.kept HST.out.own gX (some_or fun g e e2 => by injection e2 with e2; have := (World.ownsRow.lt HST.out.own g e).1; omega)) HST.out.lb
  · have HZ : Hid (∀ w', w.grownBy w' none → Sorts nam ⟨ia, iN, ic⟩ ⟨oa, oN, oc⟩ ⟨ta, tN, tc⟩ cs vin vout its w (.returned (.tuple #[.agg #[.string ⟨#[]⟩, .slice none 0 0, .slice none 0 0, .slice none 0 0, .slice none 0 0], .int .i64 (orderR cs vin vout its).2])) w') := fun w' h => ⟨h, Or.inl ⟨hz, rfl⟩⟩
    obtain ⟨OE, hOE⟩ : ∃ OE, OE = (orderR cs vin vout its).2 := ⟨_, rfl⟩
    rw [← hOE] at HZ hz ⊢
    have hzb : (OE != 0) = true := by simpa using hz
    clear hz hOE ho hov HOR
    go_wp2_with fail
    obtain ⟨hX, gX⟩ := store5 (.string ⟨#[]⟩) (.slice none 0 0) (.slice none 0 0) (.slice none 0 0) (.slice none 0 0) HB.out
    refine bodyPost_ret (ret_gra2 rfl _ _ (w.heap.size + 1) rfl hX) rfl ?_
    exact HZ.out _ (grown_trans_row (grown_trans g0 hg1) gX (fun g e => by injection e with e; omega))
end Go.Proofs.YtmdpeckeliplkaaDoor

/- The document's rows of which node is before which, by the walk. -/
namespace Go.Proofs.YtmdpeckeliplkaaDoor
open Go.RowKit

theorem reads_iff2 {ns : List Nc} {n : Nat} (hn : ns.length = n) (hu : ∀ k (hk : k < ns.length), inL ns[k].n.out (outsN (ns.take k)) = false) {a b : Nat} (ha : a < n) (hb : b < n) (hab : a < b) : rdsF (ns.getD b noNc) (ns.getD a noNc).n.out = true ↔ (b : Int) ∈ ((needN ns n).drop n).getD a [] := by
  subst hn
  have ea : ns.getD a noNc = ns[a] := by rw [List.getD, List.getElem?_eq_getElem ha]; rfl
  have eb : ns.getD b noNc = ns[b] := by rw [List.getD, List.getElem?_eq_getElem hb]; rfl
  rw [ea, eb]
  exact reads_iff hu ha hb hab

set_option maxRecDepth 100000 in
set_option maxHeartbeats 12800000 in
theorem dbefore_any (g : Gra) (cs : List Nc) (vin vout : List (Val × List Int)) (its : List (Nam × List Int × List Int)) (w : World) (hg : GraphOk w g cs vin vout its) :
    Calls Tryd.prog 12 #[gval g] w fun e w' => Befs cs vin vout its w e w' := by
  obtain ⟨i0, hi, hz0, hz1, hz2⟩ := info_parts infoBool
  obtain ⟨j0, hj, hy0, hy1, hy2⟩ := info_parts infoBools
  obtain ⟨f1, f2, f3, f4⟩ := hg.base.few
  have SO := hide (fun (wx : World) (hx : w.grownBy wx none) => sorted_any g cs vin vout its wx (hg.more hx))
  have HB := hide (fun (h : (orderR cs vin vout its).2 = 0) => read_behind hg h)
  have HG := hide hg
  obtain ⟨nam, ⟨na0, nn0, nc0⟩, ⟨ia, iN, ic⟩, ⟨oa, oN, oc⟩, ⟨ta, tN, tc⟩⟩ := g
  clear hg
  unfold gval at SO ⊢
  simp only at SO ⊢
  obtain ⟨w0, hw0⟩ : ∃ w0, w0 = w.alloc (.cells #[.string nam, .slice na0 nn0 nc0, .slice ia iN ic, .slice oa oN oc, .slice ta tN tc] 26) := ⟨_, rfl⟩
  have g0 : w.grownBy w0 none := by rw [hw0]; exact grown_new _ _
  obtain ⟨r0, r1, r2, r3, r4⟩ := gra_cells (g := ⟨nam, ⟨na0, nn0, nc0⟩, ⟨ia, iN, ic⟩, ⟨oa, oN, oc⟩, ⟨ta, tN, tc⟩⟩) (heap_alloc_new w (.cells #[.string nam, .slice na0 nn0 nc0, .slice ia iN ic, .slice oa oN oc, .slice ta tN tc] 26))
  go_enter Tryd.func12, Tryd.ntmps12
  go_wp2_with fail
  rw [← hw0]
  clear hw0 r0 r1 r2 r3 r4
  refine (SO.out w0 g0).mono ?_
  rintro e w1 ⟨hg1, ⟨hz, rfl⟩ | ⟨hz, ⟨ua, un, uc⟩, rfl, hown⟩⟩
  · have HZ : Hid (∀ w', w.grownBy w' none → Befs cs vin vout its w (.returned (.tuple #[.slice none 0 0, .int .i64 (orderR cs vin vout its).2])) w') := fun w' h => ⟨h, Or.inl ⟨hz, rfl⟩⟩
    obtain ⟨OE, hOE⟩ : ∃ OE, OE = (orderR cs vin vout its).2 := ⟨_, rfl⟩
    rw [← hOE] at HZ hz ⊢
    have hzb : (OE != 0) = true := by simpa using hz
    have g1 := grown_trans g0 hg1
    clear hOE hz SO HB
    go_wp2_with fail
    go_ret2
    exact HZ.out _ (grown_trans g1 (grown_new _ _))
  · obtain ⟨hbe, hn, -⟩ := HB.out hz
    obtain ⟨k1, k2, k3, k4, k5⟩ := orderR_ok hz
    obtain ⟨m1, m2, -⟩ := line_law (cs := cs) (vin := vin) (its := its) (fun c hc => (HG.out.is c hc).1) (fun c hc x hx => by
      have hfo := k4
      unfold foundF at hfo
      simp only [Bool.and_eq_true, List.all_eq_true] at hfo
      have := hfo.2 c hc
      unfold allF at this
      rw [List.all_eq_true] at this
      exact this x hx)
    have hLn : (inOrd cs (lineF cs vin its)).length = cs.length := by rw [inOrd_len]; exact k2
    have g1 := grown_trans g0 hg1
    obtain ⟨ns, hns⟩ : ∃ ns, ns = inOrd cs (lineF cs vin its) := ⟨_, rfl⟩
    obtain ⟨rd, hrd⟩ : ∃ rd : Nat → Nat → Bool, rd = (fun a b => rdsF (ns.getD b noNc) (ns.getD a noNc).n.out) := ⟨_, rfl⟩
    have HEQ : Hid (dN rd cs.length cs.length = rowsG cs vin its) := by
      show _ = _
      refine doc_rows_eq hbe (fun a b ha hb hab => ?_)
      have h := reads_iff2 (ns := ns) (n := cs.length) (by rw [hns, hLn]) (fun k hk => by subst hns; exact inOrd_unlike k3 m1 m2 hk) (a := a) (b := b) ha hb hab
      rw [hrd, ← hns]
      exact h
    have HEND : Hid (∀ e w', (w.grownBy w' none ∧ ∃ (Q : Nat) (q : Nat → Nat), e = .returned (.tuple #[.slice (some ⟨Q, 0, none⟩) cs.length cs.length, .int .i64 0]) ∧ Rb w' Q cs.length q (dN rd cs.length cs.length)) → Befs cs vin vout its w e w') := fun e w' h => ⟨h.1, Or.inr ⟨hz, by rw [← HEQ.out]; exact h.2⟩⟩
    have HRD : Hid (∀ a b, rd a b = rdsF (ns.getD b noNc) (ns.getD a noNc).n.out) := fun a b => by rw [hrd]
    have HIN : Hid (∀ b, b < cs.length → ∀ wx, w.grownBy wx none → IsStrs wx (ns.getD b noNc).n.iv.v (ns.getD b noNc).ins) := fun b hb wx hx => by
      have hmem : ns.getD b noNc ∈ cs := by
        have : ns.getD b noNc ∈ ns := by rw [List.getD, List.getElem?_eq_getElem (by rw [hns, hLn]; exact hb)]; exact List.getElem_mem _
        rw [hns] at this
        exact inOrd_mem m2 _ (by rw [hns]; exact this)
      exact ((HG.out.more hx).base.node _ hmem).ins
    rw [← hns] at hown
    have hLn2 : ns.length = cs.length := by rw [hns, hLn]
    have ISN := hide (OwnsL.isL (bytes := 96) ncells_len hown (by rw [List.length_map, hLn2]; omega))
    obtain ⟨xa, xc, hsv, -⟩ := ISN.out.form
    obtain ⟨rfl, rfl, rfl⟩ : ua = xa ∧ un = (ns.map (·.n)).length ∧ uc = xc := by simpa [Sl.v] using hsv
    simp only [Sl.v] at ISN ⊢
    have hlm : (ns.map (·.n)).length = cs.length := by rw [List.length_map]; exact hLn2
    rw [hlm] at ISN ⊢
    have HLN := hide hLn2
    have HGE : Hid (∀ k (hk : k < (ns.map (·.n)).length), (ns.map (·.n))[k] = (ns.getD k noNc).n) := fun k hk => by
      rw [List.getElem_map, List.getD, List.getElem?_eq_getElem (by rw [List.length_map] at hk; exact hk)]
      rfl
    clear hz hbe k1 k2 k3 k4 m1 m2 hLn hns hrd hown hsv hlm hLn2 SO HB HEQ HG
    obtain ⟨wB, hwB⟩ : ∃ wB, wB = w1.alloc (.cells #[.string nam, .slice ua cs.length uc, .slice ia iN ic, .slice oa oN oc, .slice ta tN tc] 26) := ⟨_, rfl⟩
    have gB : w1.grownBy wB none := by rw [hwB]; exact grown_new _ _
    have bB := heap_alloc_new w1 (.cells #[.string nam, .slice ua cs.length uc, .slice ia iN ic, .slice oa oN oc, .slice ta tN tc] 26)
    obtain ⟨r0, r1, r2, r3, r4⟩ := gra_cells (g := ⟨nam, ⟨ua, cs.length, uc⟩, ⟨ia, iN, ic⟩, ⟨oa, oN, oc⟩, ⟨ta, tN, tc⟩⟩) bB
    rw [← hwB] at bB
    have BH : Hid (∀ wx, wB.grownBy wx none → wx.heap[w1.heap.size]? = some (.cells #[.string nam, .slice ua cs.length uc, .slice ia iN ic, .slice oa oN oc, .slice ta tN tc] 26 (0, 0))) := fun wx hx => box_kept bB hx
    have GB := hide (grown_trans g1 gB)
    have GB1 := hide gB
    obtain ⟨M1, hM1⟩ : ∃ M, M = madeCells (Value.bool false).cells (((cs.length : Nat) : Int).toNat * i0.size) := ⟨_, rfl⟩
    obtain ⟨M2, hM2⟩ : ∃ M, M = madeCells (Value.slice none 0 0).cells (((cs.length : Nat) : Int).toNat * j0.size) := ⟨_, rfl⟩
    have E1 : Hid (M1.toList = List.replicate cs.length (.bool false)) := by show _ = _; rw [hM1]; exact made_bool hz1
    have E2 : Hid (M2.toList = List.replicate cs.length (.slice none 0 0)) := by show _ = _; rw [hM2]; exact made_nils hy1
    have mk1 : ∀ W : World, (Instr.makeSlice 35 (.int .i64 (cs.length : Int)) (.int .i64 (cs.length : Int))).run Tryd.prog W = .ok (.slice (some ⟨W.heap.size, 0, none⟩) cs.length cs.length) (W.alloc (.cells M1 4)) := fun W => by
      have h := Go.run_make (P := Tryd.prog) W 35 4 i0 (.bool false) Tryd.underlying35 hi hz0 .i64 .i64 (cs.length : Int) (cs.length : Int) (by omega) (by omega) (by rw [hz2]; omega) (by omega)
      rw [← hM1] at h
      simpa using h
    have mk2 : ∀ W : World, (Instr.makeSlice 30 (.int .i64 (cs.length : Int)) (.int .i64 (cs.length : Int))).run Tryd.prog W = .ok (.slice (some ⟨W.heap.size, 0, none⟩) cs.length cs.length) (W.alloc (.cells M2 35)) := fun W => by
      have h := Go.run_make (P := Tryd.prog) W 30 35 j0 (.slice none 0 0) Tryd.underlying30 hj hy0 .i64 .i64 (cs.length : Int) (cs.length : Int) (by omega) (by omega) (by rw [hy2]; omega) (by omega)
      rw [← hM2] at h
      simpa using h
    clear hM1 hM2 gB bB
    have mkB := mk2 wB
    rw [hwB] at mkB
    go_wp2_with fail
    rw [← hwB]
    have S0 : Hid (RW (wB.alloc (.cells M2 35)) wB.heap.size wB.heap.size cs.length 0 (fun _ => 0) (dN rd cs.length 0)) := RW.start (by omega) E2.out rfl
    have hQe : wB.heap.size = w1.heap.size + 1 := by rw [hwB]; simp
    rw [hQe] at S0
    have GS : Hid (wB.grownBy (wB.alloc (.cells M2 35)) none) := grown_new _ _
    have HQ1 := hide hQe
    clear hwB mkB mk2 r0 r1 r2 r3 r4 hQe
    generalize wB.alloc (.cells M2 35) = wS at S0 GS ⊢
    obtain ⟨Q, hQ⟩ : ∃ Q, Q = w1.heap.size + 1 := ⟨_, rfl⟩
    rw [← hQ] at S0 HQ1 ⊢
    have HQ2 := hide hQ
    clear hQ
    obtain ⟨H, hH⟩ : ∃ H, H = w1.heap.size := ⟨_, rfl⟩
    rw [← hH] at BH ⊢
    have HH := hide hH
    clear hH
    have hn : cs.length ≤ 1048576 := f1
    have hn' : cs.length ≤ 1000 := by omega
    go_loopg [8] cs.length (fun gh i wr => ∃ (k : Nat) (q : Nat → Nat), gh = cs.length - k ∧ k ≤ cs.length ∧ i = .int .i64 ((cs.length : Int) - 1 - k) ∧ RW wr Q Q cs.length k q (dN rd cs.length k) ∧ wB.grownBy wr none)
    case atStart => exact ⟨0, _, rfl, Nat.zero_le _, by simp, S0.out, GS.out⟩
    case round =>
      obtain ⟨k, q, hgk, hk, rfl, hrw, hg⟩ := hrel
      have HW := hide hrw
      have HGr := hide hg
      clear hrw hg
      by_cases hlt : k < cs.length
      · obtain ⟨a, ha⟩ : ∃ a, a = cs.length - 1 - k := ⟨_, rfl⟩
        have hae : (cs.length : Int) - 1 - (k : Int) = (a : Int) := by omega
        rw [hae]
        have hal : a < cs.length := by omega
        have ha0 : (0 : Int) ≤ (a : Int) := Int.natCast_nonneg _
        have ha1 : (a : Int) < (cs.length : Int) := by omega
        obtain ⟨wn, hwn⟩ : ∃ wn, wn = wr.alloc (.cells M1 4) := ⟨_, rfl⟩
        have hQs : Q ≤ wr.heap.size := by have := HGr.out.size; have := HQ1.out; omega
        have hmk := HW.out.make hlt (by omega) E1.out hwn hQs
        have hm1 : RW wn Q Q cs.length k q (dN rd cs.length k) := HW.out.more (by rw [hwn]; exact grown_new _ _)
        have cQ := World.ownsRow.cellAt hm1.row a (by omega)
        have fQ := World.ownsRow.frozenAt hm1.row a
        rw [List.getElem?_map, List.getElem?_range hal] at cQ
        simp only [Option.map_some] at cQ
        rw [if_neg (by omega)] at cQ
        have GQ : Hid (wB.grownBy (wn.setCell ⟨Q, a, none⟩ (.slice (some ⟨wr.heap.size, 0, none⟩) cs.length cs.length)) none) := by
          show wB.grownBy _ none
          refine grown_trans_row (b := wn) ?_ (by rw [ha]; exact hmk.2) (fun g e => by injection e with e; have := HQ1.out; omega)
          rw [hwn]
          exact grown_trans HGr.out (grown_new _ _)
        have ST0 := hide hmk.1
        rw [← ha] at ST0
        have HA := hide ha
        rw [hwn] at cQ fQ
        clear hmk hm1 ha hae
        go_wp2_with fail
        rw [← hwn]
        clear hwn cQ fQ
        generalize wn.setCell ⟨Q, a, none⟩ (.slice (some ⟨wr.heap.size, 0, none⟩) cs.length cs.length) = w2 at GQ ST0 ⊢
        obtain ⟨q2, hq2⟩ : ∃ q2 : Nat → Nat, q2 = (fun x => if x = a then wr.heap.size else q x) := ⟨_, rfl⟩
        rw [← hq2] at ST0
        clear hq2
        go_loopg [9] k (fun gh2 i wr => ∃ j : Nat, gh2 = k - j ∧ j ≤ k ∧ i = .int .i64 ((a : Int) + 1 + j) ∧ RW wr Q Q cs.length (k + 1) q2 ((dN rd cs.length k).set a (dRowN (rd a) (dN rd cs.length k) cs.length a j)) ∧ wB.grownBy wr none)
        case atStart => exact ⟨0, rfl, Nat.zero_le _, by simp, ST0.out, GQ.out⟩
        case round =>
          obtain ⟨j, hg2, hj, rfl, hst, hgx⟩ := hrel
          have HS := hide hst
          have HX := hide hgx
          clear hst hgx
          have hHA := HA.out
          obtain ⟨b, hb⟩ : ∃ b, b = a + 1 + j := ⟨_, rfl⟩
          have hbe : (a : Int) + 1 + (j : Int) = (b : Int) := by omega
          rw [hbe]
          by_cases hjl : j < k
          · have hbl : b < cs.length := by omega
            have hb0 : (0 : Int) ≤ (b : Int) := Int.natCast_nonneg _
            have hb1 : (b : Int) < (cs.length : Int) := by omega
            have hab : a < b := by omega
            have HBe := hide hb
            have HAr := hide hHA
            have cA := HS.out.cell (a := a) (by omega) hal
            obtain ⟨oA, lA⟩ := HS.out.each a (by omega) hal
            rw [getD_set _ _ _ _ _ (by rw [dN_len]; exact hal), if_pos rfl] at oA lA
            obtain ⟨R0, hR0⟩ : ∃ R0, R0 = dRowN (rd a) (dN rd cs.length k) cs.length a j := ⟨_, rfl⟩
            obtain ⟨M0, hM0⟩ : ∃ M0, M0 = dN rd cs.length k := ⟨_, rfl⟩
            have HNX : Hid (dRowN (rd a) M0 cs.length a (j + 1) = R0.set b (dC R0 M0 b j (a + 1) (rd a b))) := by show _ = _; rw [dRowN, hR0, ← hM0, hb]
            have HML : Hid (M0.length = cs.length) := by show _ = _; rw [hM0]; exact dN_len _ _ _
            rw [← hR0] at oA lA HS
            rw [← hM0] at HS
            have HM0 := hide hM0
            obtain ⟨cc, fc⟩ := oA.at (getD_some (by rw [lA]; exact hbl))
            obtain ⟨r0, r1, r2, r3, r4⟩ := gra_cells (g := ⟨nam, ⟨ua, cs.length, uc⟩, ⟨ia, iN, ic⟩, ⟨oa, oN, oc⟩, ⟨ta, tN, tc⟩⟩) (BH.out wr HX.out)
            have HLk := ISN.out.more (grown_trans GB1.out HX.out)
            obtain ⟨ub, uo, hua⟩ := HLk.addr (k := b) (by rw [List.length_map, HLN.out]; exact hbl)
            have hua : ua = some ⟨ub, uo, none⟩ := hua
            subst hua
            obtain ⟨a0, a1, a2, a3, a4⟩ := HLk.nod b (by rw [List.length_map, HLN.out]; exact hbl)
            obtain ⟨-, -, -, x3, -⟩ := HLk.nod a (by rw [List.length_map, HLN.out]; exact hal)
            rw [HGE.out] at a0 a1 a2 a3 a4 x3
            have DR := hide (fun (wx : World) (hx : wB.grownBy wx none) => dreads_any (ns.getD b noNc) (ns.getD a noNc).n.out wx (HIN.out b hbl wx (grown_trans GB.out hx)))
            have hrde := HRD.out a b
            rw [← hrde] at DR
            have hub : ub < H := by
              have hh := ISN.out.nod b (by rw [List.length_map, HLN.out]; exact hbl)
              have := World.block_lt_of_cell? w1 _ hh.1
              rw [HH.out]
              exact this
            have hqa := oA.lt.1
            have hQH : Q = H + 1 := by rw [HQ2.out, HH.out]
            have e1 : q2 a ≠ Q := fun e => HS.out.ne (a := a) (by omega) hal e
            have e2 : q2 a ≠ H := by omega
            have e3 : q2 a ≠ ub := by omega
            have e4 : Q ≠ q2 a := e1.symm
            have e5 : H ≠ q2 a := e2.symm
            have e6 : ub ≠ q2 a := e3.symm
            obtain ⟨X, hX⟩ : ∃ X, X = (ns.getD a noNc).n.out := ⟨_, rfl⟩
            obtain ⟨C, hC⟩ : ∃ C, C = (ns.getD b noNc).n := ⟨_, rfl⟩
            rw [← hX] at x3 DR
            rw [← hC] at a0 a1 a2 a3 a4 DR
            obtain ⟨v0, hv0⟩ : ∃ v0, v0 = rd a b := ⟨_, rfl⟩
            rw [← hv0] at DR HNX
            clear HLk hX hC hv0 hrde hR0 hM0 hb hbe hHA hqa hQH hub
            obtain ⟨cop, cnam, ⟨ca, cN, cc5⟩, cout, ⟨da, dN5, dc⟩⟩ := C
            unfold nval at DR
            simp only at a0 a1 a2 a3 a4 DR
            have OA := hide oA
            have LA := hide lA
            clear oA lA
            have KP : Hid (∀ wx, wr.grownBy wx none → wx.cell? ⟨Q, a, none⟩ = some (.slice (some ⟨q2 a, 0, none⟩) cs.length cs.length) ∧ wx.cell? ⟨H, 1, none⟩ = some (.slice (some ⟨ub, uo, none⟩) cs.length uc) ∧ wx.cell? ⟨ub, uo + b * 5, none⟩ = some (.string cop) ∧ wx.cell? ⟨ub, uo + b * 5 + 1, none⟩ = some (.string cnam) ∧ wx.cell? ⟨ub, uo + b * 5 + 2, none⟩ = some (.slice ca cN cc5) ∧ wx.cell? ⟨ub, uo + b * 5 + 3, none⟩ = some (.string cout) ∧ wx.cell? ⟨ub, uo + b * 5 + 4, none⟩ = some (.slice da dN5 dc) ∧ wx.cell? ⟨ub, uo + a * 5 + 3, none⟩ = some (.string X)) := fun wx hx => by
              have up : ∀ {ad : Addr} {v : Value}, wr.cell? ad = some v → wx.cell? ad = some v := fun {ad v} h2 => (World.cell?_of_block (hx.block ad.block (World.block_lt_of_cell? wr _ h2) (by simp))).trans h2
              exact ⟨up cA, up r1, up a0, up a1, up a2, up a3, up a4, up x3⟩
            have KC : Hid (∀ wx, wr.grownBy wx none → wx.cell? ⟨q2 a, b, none⟩ = some (.bool (R0.getD b false)) ∧ wx.frozen? ⟨q2 a, b, none⟩ = false) := fun wx hx => (OA.out.new hx).at (getD_some (by rw [LA.out]; exact hbl))
            go_wp2_with fail
            clear r0 r2 r3 r4
            go_region_held3 (fun w' => w'.cell? ⟨Q, a, none⟩ = some (.slice (some ⟨q2 a, 0, none⟩) cs.length cs.length) ∧ w'.cell? ⟨H, 1, none⟩ = some (.slice (some ⟨ub, uo, none⟩) cs.length uc) ∧ w'.cell? ⟨ub, uo + b * 5, none⟩ = some (.string cop) ∧ w'.cell? ⟨ub, uo + b * 5 + 1, none⟩ = some (.string cnam) ∧ w'.cell? ⟨ub, uo + b * 5 + 2, none⟩ = some (.slice ca cN cc5) ∧ w'.cell? ⟨ub, uo + b * 5 + 3, none⟩ = some (.string cout) ∧ w'.cell? ⟨ub, uo + b * 5 + 4, none⟩ = some (.slice da dN5 dc) ∧ w'.cell? ⟨ub, uo + a * 5 + 3, none⟩ = some (.string X)) (go_keep) (first | (go_at_call 25; refine (DR.out _ (grown_drew HX.out)).mono ?_; rintro e w' ⟨rfl, hgw⟩; obtain ⟨p1, p2, p3, p4, p5, p6, p7, p8⟩ := KP.out w' (grown_trans (grown_drew (grown_refl _)) hgw); obtain ⟨p9, p10⟩ := KC.out w' (grown_trans (grown_drew (grown_refl _)) hgw)) | fail)
            have gw : wr.grownBy w' none := grown_trans (grown_drew (grown_refl _)) hgw
            have ob := OA.out.new gw
            have ns1 := ob.set b v0
            have PU := (HS.out.more gw).put (a := a) (by have := HAr.out; omega) hal (row := R0.set b v0) (by rw [List.length_set]; exact LA.out) ns1.1 ns1.2
            rw [List.set_set] at PU
            have PU2 := hide PU
            have HY0 : Hid (wB.grownBy (w'.setCell ⟨q2 a, b, none⟩ (.bool v0)) none) := grown_trans_row (grown_trans HX.out gw) ns1.2 (fun g e => by injection e with e; have := ob.lt.1; have := HQ1.out; omega)
            clear PU ns1 ob p1 p2 p3 p4 p5 p6 p7 p8 p9 p10 cA cc fc r1 a0 a1 a2 a3 a4 x3
            go_wp2_with fail
            generalize w'.setCell ⟨q2 a, b, none⟩ (.bool v0) = wI at PU2 HY0 ⊢
            clear gw hgw
            obtain ⟨T, hT⟩ : ∃ T, T = dC R0 M0 b j (a + 1) v0 := ⟨_, rfl⟩
            rw [← hT] at HNX
            have HT := hide hT
            clear hT
            go_loopg [10] j (fun gh3 i wr => ∃ (d c : Nat) (v : Bool), gh3 = d ∧ c + d = b ∧ a < c ∧ i = .int .i64 (c : Int) ∧ dC R0 M0 b d c v = T ∧ RW wr Q Q cs.length (k + 1) q2 (M0.set a (R0.set b v)) ∧ wB.grownBy wr none)
            case atStart => exact ⟨j, a + 1, v0, rfl, by have := HBe.out; omega, by omega, by simp, HT.out.symm, PU2.out, HY0.out⟩
            case round =>
              obtain ⟨d, c, v, hg3, hcd, hac, rfl, hdc, hst, hgy⟩ := hrel
              have HS3 := hide hst
              have HY := hide hgy
              have HDC := hide hdc
              clear hst hgy hdc
              have hHA := HAr.out
              have cA := HS3.out.cell (a := a) (by omega) hal
              obtain ⟨oA, lA⟩ := HS3.out.each a (by omega) hal
              rw [getD_set _ _ _ _ _ (by rw [HML.out]; exact hal), if_pos rfl] at oA lA
              cases d with
              | zero =>
                have hcb : c = b := by omega
                subst hcb
                have FIN : Hid (RW wr Q Q cs.length (k + 1) q2 (M0.set a (dRowN (rd a) M0 cs.length a (j + 1)))) := by show RW _ _ _ _ _ _ _; rw [HNX.out, ← HDC.out, dC]; exact HS3.out
                have hnc : ¬ (c : Int) < (c : Int) := by omega
                clear cA oA lA hHA hcd
                go_wp2_with fail
                go_roundg (k - (j + 1))
                case measure => omega
                case rel => exact ⟨j + 1, rfl, by omega, by have := HBe.out; congr 1; omega, by have h := FIN.out; rw [HM0.out] at h; exact h, HY.out⟩
              | succ d =>
                have hcb : c < b := by omega
                have hcb1 : (c : Int) < (b : Int) := by omega
                have hc0 : (0 : Int) ≤ (c : Int) := Int.natCast_nonneg _
                have hc1 : (c : Int) < (cs.length : Int) := by omega
                obtain ⟨y1, y2⟩ := oA.at (getD_some (k := b) (by rw [lA]; exact hbl))
                rw [getD_set _ _ _ _ _ (by rw [LA.out]; exact hbl), if_pos rfl] at y1
                cases v with
                | true =>
                  have FIN : Hid (RW wr Q Q cs.length (k + 1) q2 (M0.set a (dRowN (rd a) M0 cs.length a (j + 1)))) := by show RW _ _ _ _ _ _ _; rw [HNX.out, ← HDC.out, dC]; exact HS3.out
                  clear oA lA hHA hcd
                  go_wp2_with fail
                  go_roundg (k - (j + 1))
                  case measure => omega
                  case rel => exact ⟨j + 1, rfl, by omega, by have := HBe.out; congr 1; omega, by have h := FIN.out; rw [HM0.out] at h; exact h, HY.out⟩
                | false =>
                  obtain ⟨x1, -⟩ := oA.at (getD_some (k := c) (by rw [lA]; omega))
                  rw [getD_set _ _ _ _ _ (by rw [LA.out]; exact hbl), if_neg (by omega)] at x1
                  have cC := HS3.out.cell (a := c) (by omega) (by omega)
                  obtain ⟨oC, lC⟩ := HS3.out.each c (by omega) (by omega)
                  rw [getD_set _ _ _ _ _ (by rw [HML.out]; exact hal), if_neg (by omega)] at oC lC
                  obtain ⟨w1c, -⟩ := oC.at (getD_some (k := b) (by rw [lC]; exact hbl))
                  have NX : Hid (dC R0 M0 b d (c + 1) (R0.getD c false && (M0.getD c []).getD b false) = T) := by
                    show _ = _
                    have h := HDC.out
                    rw [dC] at h
                    simpa using h
                  have PW : Hid (∀ v, RW ((wr.setCell ⟨q2 a, b, none⟩ (.bool v)).drew) Q Q cs.length (k + 1) q2 (M0.set a (R0.set b v)) ∧ wB.grownBy ((wr.setCell ⟨q2 a, b, none⟩ (.bool v)).drew) none) := fun v => by
                    have ns1 := oA.set b v
                    have PU := HS3.out.put (a := a) (by omega) hal (row := (R0.set b false).set b v) (by rw [List.length_set]; exact lA) ns1.1 ns1.2
                    rw [List.set_set, List.set_set] at PU
                    exact ⟨PU.more (grown_drew (grown_refl _)), grown_drew (grown_trans_row HY.out ns1.2 (fun g e => by injection e with e; have := oA.lt.1; have := HQ1.out; omega))⟩
                  obtain ⟨x, hx⟩ : ∃ x, x = R0.getD c false := ⟨_, rfl⟩
                  obtain ⟨y, hy⟩ : ∃ y, y = (M0.getD c []).getD b false := ⟨_, rfl⟩
                  rw [← hx] at x1 NX
                  rw [← hy] at w1c NX
                  have HCD := hide hcd
                  clear oA lA oC lC hHA hx hy hcd
                  cases x with
                  | false =>
                    go_wp2_with fail
                    go_region
                    go_wp2_with fail
                    go_roundg d
                    case measure => omega
                    case rel => exact ⟨d, c + 1, false, rfl, by have := HCD.out; omega, by omega, by go_num, by have h := NX.out; simpa using h, (PW.out false).1, (PW.out false).2⟩
                  | true =>
                    cases y with
                    | false =>
                      go_wp2_with fail
                      go_region
                      go_wp2_with fail
                      go_roundg d
                      case measure => omega
                      case rel => exact ⟨d, c + 1, false, rfl, by have := HCD.out; omega, by omega, by go_num, by have h := NX.out; simpa using h, (PW.out false).1, (PW.out false).2⟩
                    | true =>
                      go_wp2_with fail
                      go_region
                      go_wp2_with fail
                      go_roundg d
                      case measure => omega
                      case rel => exact ⟨d, c + 1, true, rfl, by have := HCD.out; omega, by omega, by go_num, by have h := NX.out; simpa using h, (PW.out true).1, (PW.out true).2⟩
          · have hjk : j = k := by omega
            subst hjk
            have hnb : ¬ (b : Int) < (cs.length : Int) := by omega
            have FIN : Hid (RW wr Q Q cs.length (j + 1) q2 (dN rd cs.length (j + 1))) := by
              show RW _ _ _ _ _ _ _
              have h := HS.out
              rw [dN, ← HA.out]
              exact h
            clear hb hbe hHA
            go_wp2_with fail
            go_roundg (cs.length - (j + 1))
            case measure => omega
            case rel => exact ⟨j + 1, q2, rfl, by omega, by have := HA.out; congr 1; omega, FIN.out, HX.out⟩
      · obtain rfl : k = cs.length := by omega
        have hneg : ¬ (0 : Int) ≤ (cs.length : Int) - 1 - (cs.length : Int) := by omega
        go_wp2_with fail
        go_ret2
        exact HEND.out _ _ ⟨grown_trans GB.out HGr.out, Q, q, rfl, HW.out.done⟩
end Go.Proofs.YtmdpeckeliplkaaDoor
