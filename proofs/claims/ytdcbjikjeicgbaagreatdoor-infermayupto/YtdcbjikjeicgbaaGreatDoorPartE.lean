/- Joined texts: GLinks, GParts, GChk, GOrder, GReads, GOrdP, GOrdQ, GTwo, SSame, GLive, NOpen, GOpen. -/
import Derived.Test.YtdcbjikjeicgbaaGreatDoorPartD
import Derived.Deep.AppendLies
import Derived.Deep.RegionHeld3
import Derived.Deep.RegionLaw
import Derived.Deep.RegionLawGrows
import Derived.Laws.MakeOwn
import Derived.Test.YtdcbjikjeicgbaaGreatDoorPartB
import Derived.Test.YtdcbjikjeicgbaaGreatDoorPartA
import Derived.Deep.Slices
/- Waits and readers of a graph's nodes, by the walk. -/
namespace Go.Proofs.YtdcbjikjeicgbaaGreatDoor
open Go.RowKit

theorem infoInts : (Tryz.prog.info? 29).map (fun i => (i.zero, i.size, i.bytes)) = some (some (.slice none 0 0), 1, 24) := by kernel_rfl

theorem three (w : World) (a b c : Obj) : (((w.alloc a).alloc b).alloc c).drew.heap[w.heap.size]? = some a ∧ (((w.alloc a).alloc b).alloc c).drew.heap[w.heap.size + 1]? = some b ∧ (((w.alloc a).alloc b).alloc c).drew.heap[w.heap.size + 1 + 1]? = some c ∧ w.grownBy (((w.alloc a).alloc b).alloc c).drew none := by
  have e1 : (w.alloc a).heap.size = w.heap.size + 1 := by simp
  have e2 : ((w.alloc a).alloc b).heap.size = w.heap.size + 1 + 1 := by simp
  have k1 := heap_alloc_new w a
  have k2 := heap_alloc_new (w.alloc a) b
  have k3 := heap_alloc_new ((w.alloc a).alloc b) c
  rw [e1] at k2
  rw [e2] at k3
  exact ⟨((grown_drew (grown_trans (grown_new (w.alloc a) b) (grown_new _ c))).block w.heap.size (by omega) (by simp)).trans k1, ((grown_drew (grown_new ((w.alloc a).alloc b) c)).block (w.heap.size + 1) (by omega) (by simp)).trans k2, k3, grown_drew (grown_trans (grown_trans (grown_new _ _) (grown_new _ _)) (grown_new _ _))⟩

theorem lk_made {w : World} {base Bw Br n : Nat} (hw : base ≤ Bw) (hr : base ≤ Br) (hne : Bw ≠ Br) (hn : n ≤ 1048576) (M1 M2 : Array Value) (e1 : M1.toList = List.replicate n (.int .i64 0)) (e2 : M2.toList = List.replicate n (.slice none 0 0)) (h1 : w.heap[Bw]? = some (.cells M1 3 (0, 0))) (h2 : w.heap[Br]? = some (.cells M2 29 (0, 0))) :
    Lk w base Bw Br (List.replicate n 0, List.replicate n []) (List.replicate n nilS) := by
  have s1 : M1.size = n := by rw [← Array.length_toList, e1, List.length_replicate]
  have s2 : M2.size = n := by rw [← Array.length_toList, e2, List.length_replicate]
  have nd : ∀ k, (List.replicate n nilS).getD k nilS = nilS := fun k => by
    rw [List.getD, List.getElem?_replicate]
    split <;> rfl
  have rd : ∀ k, (List.replicate n ([] : List Int)).getD k [] = [] := fun k => by
    rw [List.getD, List.getElem?_replicate]
    split <;> rfl
  refine ⟨?_, ?_, by simp, fun k hk => ?_, fun k hk g e => ?_, hne⟩
  · unfold OwnW
    simp only [List.length_replicate]
    refine ⟨by simp, Or.inr ⟨Bw, n, M1, rfl, hw, h1, Nat.le_refl _, by simp only [maxLen]; omega, by omega, ?_⟩⟩
    rw [e1, Nat.mul_one, List.take_of_length_le (by simp)]
    simp
  · simp only [List.length_replicate]
    refine ⟨by simp, Or.inr ⟨Br, n, M2, rfl, hr, h2, Nat.le_refl _, by simp only [maxLen]; omega, by omega, ?_⟩⟩
    rw [e2, Nat.mul_one, List.take_of_length_le (by simp)]
    simp
  · show Owns w base ((List.replicate n nilS).getD k nilS).v ((List.replicate n ([] : List Int)).getD k [])
    rw [nd, rd]
    exact ⟨World.ownsRow_nil _ _ _ _, by simp, by simp⟩
  · rw [nd] at e
    cases e

/-- Where the links stand: how they lie, and the variable that holds them. -/
structure LSt (w1 wr : World) (S Q Bw Br n : Nat) (p : List Int × List (List Int)) (rs : List Sl) : Prop where
  lk : Lk wr w1.heap.size Bw Br p rs
  box : wr.heap[Q]? = some (.cells #[.slice (some ⟨Bw, 0, none⟩) n n, .slice (some ⟨Br, 0, none⟩) n n] 181 (0, 0))
  high : ∀ k g, (rs.getD k nilS).v.ownBlock = some g → S ≤ g
  grown : w1.grownBy wr none
  size : S ≤ wr.heap.size
  low : Q < S
  n1 : Q ≠ Bw
  n2 : Q ≠ Br

theorem LSt.new {w1 wr w' : World} {S Q Bw Br n : Nat} {p : List Int × List (List Int)} {rs : List Sl} (h : LSt w1 wr S Q Bw Br n p rs) (hg : wr.grownBy w' none) : LSt w1 w' S Q Bw Br n p rs :=
  ⟨h.lk.new hg, (hg.block Q (by have := h.low; have := h.size; omega) (by simp)).trans h.box, h.high, grown_trans h.grown hg, Nat.le_trans h.size hg.size, h.low, h.n1, h.n2⟩

theorem LSt.inc {w1 wr : World} {S Q Bw Br n : Nat} {W : List Int} {R : List (List Int)} {rs : List Sl} (h : LSt w1 wr S Q Bw Br n (W, R) rs) (i : Nat) (x : Int) : LSt w1 (wr.setCell ⟨Bw, i, none⟩ (.int .i64 x)) S Q Bw Br n (W.set i x, R) rs := by
  have s := h.lk.inc i x
  refine ⟨s.1, (s.2.block Q (by have := h.low; have := h.size; omega) (by simpa using h.n1)).trans h.box, h.high, grown_trans_row h.grown s.2 (fun g e => ?_), Nat.le_trans h.size s.2.size, h.low, h.n1, h.n2⟩
  injection e with e
  have := h.lk.own.lt.1
  omega

theorem LSt.app {w1 wr w8 : World} {S Q Bw Br n : Nat} {W : List Int} {R : List (List Int)} {rs : List Sl} (h : LSt w1 wr S Q Bw Br n (W, R) rs) {m : Nat} (hm : m < R.length) {v' : Sl} {i : Nat} (hg : wr.grownBy w8 (rs.getD m nilS).v.ownBlock)
    (ho : w8.ownsRow w1.heap.size 3 1 v'.v ((R.getD m []).length + 1) ((R.getD m []).map (Value.int .i64) ++ [.int .i64 (i : Int)])) (hat : v'.v.ownBlock = (rs.getD m nilS).v.ownBlock ∨ v'.v.ownBlock = some wr.heap.size) (hi : i ≤ 1048576) (hl : (R.getD m []).length ≤ 1099511627776) :
    LSt w1 (w8.setCell ⟨Br, m, none⟩ (.slice v'.a v'.n v'.c)) S Q Bw Br n (W, R.set m (R.getD m [] ++ [(i : Int)])) (rs.set m v') := by
  have s := h.lk.app hm hg ho hat hi hl
  have hlen : rs.length = R.length := h.lk.len
  have hsz := hg.size
  have hS := h.size
  have hlow := h.low
  refine ⟨s.1, ?_, fun k g e => ?_, ?_, Nat.le_trans (Nat.le_trans h.size hg.size) s.2.size, h.low, h.n1, h.n2⟩
  · refine ((s.2.block Q (by omega) (by simpa using h.n2)).trans (hg.block Q (by omega) (fun e => ?_))).trans h.box
    have := h.high m Q e.symm
    omega
  · have gset : (rs.set m v').getD k nilS = if k = m then v' else rs.getD k nilS := by
      by_cases e : k = m
      · subst e
        rw [if_pos rfl, List.getD, List.getElem?_set_self (by omega)]
        rfl
      · rw [if_neg e, List.getD, List.getElem?_set_ne (fun h => e h.symm)]
        rfl
    rw [gset] at e
    by_cases ek : k = m
    · rw [if_pos ek] at e
      rcases hat with h1 | h1
      · exact h.high m g (h1.symm.trans e)
      · rw [h1] at e
        injection e with e
        omega
    · rw [if_neg ek] at e
      exact h.high k g e
  · refine grown_trans_row (grown_trans_row h.grown hg (fun g e => ?_)) s.2 (fun g e => ?_)
    · exact ((h.lk.each m hm).lt g e).1
    · injection e with e
      have := (World.ownsRow.lt h.lk.row Br rfl).1
      omega

theorem row_base_le {w : World} {base b' : Nat} {e : TypeId} {size : Nat} {v : Value} {n : Nat} {xs : List Value} (h : w.ownsRow base e size v n xs) (hb : b' ≤ base) : w.ownsRow b' e size v n xs := by
  refine ⟨h.1, ?_⟩
  rcases h.2 with h0 | ⟨g, cap, cur, e, hg, r⟩
  · exact .inl h0
  · exact .inr ⟨g, cap, cur, e, by omega, r⟩

theorem Lk.base_le {w : World} {base b' Bw Br : Nat} {p : List Int × List (List Int)} {rs : List Sl} (h : Lk w base Bw Br p rs) (hb : b' ≤ base) : Lk w b' Bw Br p rs :=
  ⟨row_base_le h.own hb, row_base_le h.row hb, h.len, fun k hk => (h.each k hk).base_le hb, h.apart, h.ne⟩

theorem links_cells {w : World} {Q : Nat} {u v : Value} {t : TypeId} (hb : w.heap[Q]? = some (.cells #[u, v] t (0, 0))) : w.cell? ⟨Q, 0, none⟩ = some u ∧ w.cell? ⟨Q, 1, none⟩ = some v :=
  ⟨(cell_of_row _ _ 0 _ _ (0, 0) hb).trans rfl, (cell_of_row _ _ 1 _ _ (0, 0) hb).trans rfl⟩

theorem Lk.past {w w' : World} {base Bw Br B : Nat} {p : List Int × List (List Int)} {rs : List Sl} (h : Lk w base Bw Br p rs) (hB : B < base) (hg : w.grownBy w' (some B)) : Lk w' base Bw Br p rs := by
  have h1 := (World.ownsRow.lt h.own Bw rfl).1
  have h2 := (World.ownsRow.lt h.row Br rfl).1
  refine ⟨World.ownsRow.kept h.own hg (Or.inr ?_), World.ownsRow.kept h.row hg (Or.inr ?_), h.len, fun k hk => (h.each k hk).more hg (some_or fun g e => ?_), h.apart, h.ne⟩
  · simp [Value.ownBlock]; omega
  · simp [Value.ownBlock]; omega
  · have := ((h.each k hk).lt g e).1
    simp; omega

theorem grown_drewr {a b : World} {row : Option Nat} (h : a.grownBy b row) : a.grownBy b.drew row := ⟨h.os, h.tape, h.output, h.size, h.block⟩

theorem grown_allocr {a b : World} {row : Option Nat} (h : a.grownBy b row) (o : Obj) : a.grownBy (b.alloc o) row := h.trans (World.grownBy_alloc b o row)

theorem lnksInfo : (Tryz.prog.info? 181).map (·.size) = some 2 := by kernel_rfl

theorem ret_links {fn : Func} {p : Tmp} (h : fn.results = #[.cell p 181]) (tmps : Array Value) (w : World) (B : Nat) (hp : tmps.getD p undef = .pointer (some ⟨B, 0, none⟩)) {a0 a1 : Value}
    (hb : w.heap[B]? = some (.cells #[a0, a1] 181 (0, 0))) : (results fn tmps).run Tryz.prog w = .ok (.agg #[a0, a1]) w :=
  results_cell_row h tmps w B 181 #[a0, a1] (0, 0) _ hp hb Tryz.underlying181 rfl (by rw [lnksInfo]; rfl)

theorem store2l {w3 : World} {B : Nat} {z0 z1 : Value} {t : TypeId} (a b : Value) (hb : w3.heap[B]? = some (.cells #[z0, z1] t (0, 0))) :
    ((w3.setCell ⟨B, 0, none⟩ a).setCell ⟨B, 1, none⟩ b).heap[B]? = some (.cells #[a, b] t (0, 0)) ∧ w3.grownBy ((w3.setCell ⟨B, 0, none⟩ a).setCell ⟨B, 1, none⟩ b) (some B) := by
  have h1 := heap_setCell_same w3 B 0 _ _ a hb
  have h2 := heap_setCell_same _ B 1 _ _ b h1
  have g : ∀ (x : World) (j : Nat) (v : Value), x.grownBy (x.setCell ⟨B, j, none⟩ v) (some B) := fun x j v =>
    ⟨rfl, rfl, rfl, by simp [World.setCell], fun k _ hk => Below.heap_setCell _ _ _ _ (fun e => hk (by rw [e]))⟩
  exact ⟨by simpa using h2, grown_same (g w3 0 a) (g _ 1 b)⟩

set_option maxRecDepth 100000 in
set_option maxHeartbeats 6400000 in
theorem linksof_any (g : Gra) (cs : List Nc) (vin : List Val) (its : List Nam) (b : Nat) (l : List ByteArray) (w : World) (h1 : IsNods w g.nv.v (cs.map (·.n))) (h2 : IsVals w g.iv.v vin) (h4 : IsNams w g.tv.v its) (hf : cs.length ≤ 1024 ∧ vin.length ≤ 1048576 ∧ its.length ≤ 1048576)
    (hin : ∀ c ∈ cs, IsStrs w c.n.iv.v c.ins ∧ c.ins.length ≤ 1048576 ∧ ∀ x ∈ c.ins, x.size ≤ 1048576 ∧ inL x l = true) (hl : l.length = vin.length + its.length + cs.length) (hn : Nums w b l) :
    Calls Tryz.prog 153 #[gval g, .map (some b)] w fun e w' => ∃ (Bw Br : Nat) (rs : List Sl), e = .returned (.agg #[.slice (some ⟨Bw, 0, none⟩) cs.length cs.length, .slice (some ⟨Br, 0, none⟩) cs.length cs.length]) ∧ Lk w' w.heap.size Bw Br (linksN cs l (vin.length + its.length) cs.length) rs ∧ w.grownBy w' none := by
  obtain ⟨i0, hi, hz0, hz1, hz2⟩ := info_parts infoInt
  obtain ⟨j0, hj, hy0, hy1, hy2⟩ := info_parts infoInts
  obtain ⟨f1, f2, f4⟩ := hf
  obtain ⟨nam, ⟨na0, nn0, nc0⟩, ⟨ia, iN, ic⟩, ⟨oa, oN, oc⟩, ⟨ta, tN, tc⟩⟩ := g
  have H1 := hide h1
  have HIN := hide hin
  have HNU := hide hn
  obtain ⟨xa, xc, e1, p1, p2, p3⟩ := h1.form
  rw [List.length_map] at e1 p1 p3
  obtain ⟨rfl, rfl, rfl⟩ : na0 = xa ∧ nn0 = cs.length ∧ nc0 = xc := by simpa [Sl.v] using e1
  obtain ⟨ya, yc, e2, p4, p5, p6⟩ := h2.form
  obtain ⟨rfl, rfl, rfl⟩ : ia = ya ∧ iN = vin.length ∧ ic = yc := by simpa [Sl.v] using e2
  obtain ⟨qa, qc, e4, p10, p11, p12⟩ := h4.form
  obtain ⟨rfl, rfl, rfl⟩ : ta = qa ∧ tN = its.length ∧ tc = qc := by simpa [Sl.v] using e4
  clear h1 h2 h4 e1 e2 e4 hin hn
  obtain ⟨M1, hM1⟩ : ∃ M, M = madeCells (Value.int .i64 0).cells (((cs.length : Nat) : Int).toNat * i0.size) := ⟨_, rfl⟩
  obtain ⟨M2, hM2⟩ : ∃ M, M = madeCells (Value.slice none 0 0).cells (((cs.length : Nat) : Int).toNat * j0.size) := ⟨_, rfl⟩
  have E1 : Hid (M1.toList = List.replicate cs.length (.int .i64 0)) := by show _ = _; rw [hM1, hz1, Nat.mul_one, show (Value.int .i64 0).cells = #[Value.int .i64 0] from rfl, toList_madeCells_one]; simp
  have E2 : Hid (M2.toList = List.replicate cs.length (.slice none 0 0)) := by show _ = _; rw [hM2, hy1, Nat.mul_one, show (Value.slice none 0 0).cells = #[Value.slice none 0 0] from rfl, toList_madeCells_one]; simp
  have mk1 : ∀ W : World, (Instr.makeSlice 29 (.int .i64 (cs.length : Int)) (.int .i64 (cs.length : Int))).run Tryz.prog W = .ok (.slice (some ⟨W.heap.size, 0, none⟩) cs.length cs.length) (W.alloc (.cells M1 3)) := fun W => by
    have h := Go.run_make (P := Tryz.prog) W 29 3 i0 (.int .i64 0) Tryz.underlying29 hi hz0 .i64 .i64 (cs.length : Int) (cs.length : Int) (by omega) (by omega) (by rw [hz2]; omega) (by omega)
    rw [← hM1] at h
    simpa using h
  have mk2 : ∀ W : World, (Instr.makeSlice 179 (.int .i64 (cs.length : Int)) (.int .i64 (cs.length : Int))).run Tryz.prog W = .ok (.slice (some ⟨W.heap.size, 0, none⟩) cs.length cs.length) (W.alloc (.cells M2 29)) := fun W => by
    have h := Go.run_make (P := Tryz.prog) W 179 29 j0 (.slice none 0 0) Tryz.underlying179 hj hy0 .i64 .i64 (cs.length : Int) (cs.length : Int) (by omega) (by omega) (by rw [hy2]; omega) (by omega)
    rw [← hM2] at h
    simpa using h
  clear hM1 hM2
  unfold gval
  simp only
  obtain ⟨w0, hw0⟩ : ∃ w0, w0 = w.alloc (.cells #[.string nam, .slice na0 cs.length nc0, .slice ia vin.length ic, .slice oa oN oc, .slice ta its.length tc] 42) := ⟨_, rfl⟩
  have g0 : w.grownBy w0 none := by rw [hw0]; exact grown_new _ _
  have b0 := heap_alloc_new w (.cells #[.string nam, .slice na0 cs.length nc0, .slice ia vin.length ic, .slice oa oN oc, .slice ta its.length tc] 42)
  rw [← hw0] at b0
  have BX : Hid (∀ wx, w0.grownBy wx none → wx.heap[w.heap.size]? = some (.cells #[.string nam, .slice na0 cs.length nc0, .slice ia vin.length ic, .slice oa oN oc, .slice ta its.length tc] 42 (0, 0))) := fun wx hx => box_kept b0 hx
  have hS0 : Hid (w0.heap.size = w.heap.size + 1) := by show _ = _; rw [hw0]; simp
  clear b0
  go_enter Tryz.func153, Tryz.ntmps153
  go_wp2_with fail
  rw [← hw0]
  clear hw0
  obtain ⟨w1, hw1⟩ : ∃ w1, w1 = w0.alloc (.cells #[.slice none 0 0, .slice none 0 0] 181) := ⟨_, rfl⟩
  have g1 : w0.grownBy w1 none := by rw [hw1]; exact grown_new _ _
  have b1 := heap_alloc_new w0 (.cells #[.slice none 0 0, .slice none 0 0] 181)
  rw [← hw1] at b1
  have RX : Hid (∀ wx, w1.grownBy wx none → wx.heap[w0.heap.size]? = some (.cells #[.slice none 0 0, .slice none 0 0] 181 (0, 0))) := fun wx hx => box_kept b1 hx
  have hS1 : Hid (w1.heap.size = w0.heap.size + 1) := by show _ = _; rw [hw1]; simp
  obtain ⟨r0, r1, r2, r3, r4⟩ := gra_cells (g := ⟨nam, ⟨na0, cs.length, nc0⟩, ⟨ia, vin.length, ic⟩, ⟨oa, oN, oc⟩, ⟨ta, its.length, tc⟩⟩) (BX.out w1 g1)
  clear b1
  rw [← hw1]
  clear hw1
  go_cut [5] from 11 to 19 (fun p wx => ∃ (Q Bw Br : Nat), p = .pointer (some ⟨Q, 0, none⟩) ∧ wx.heap[Q]? = some (.cells #[.slice (some ⟨Bw, 0, none⟩) cs.length cs.length, .slice (some ⟨Br, 0, none⟩) cs.length cs.length] 181 (0, 0)) ∧ Q ≠ Bw ∧ Q ≠ Br ∧ w1.heap.size ≤ Q ∧ Lk wx w1.heap.size Bw Br (linksN cs l (vin.length + its.length) 0) (List.replicate cs.length nilS) ∧ w1.grownBy wx none)
  case first =>
    have KP : Hid (∀ wx, w1.grownBy wx none → wx.cell? ⟨w.heap.size, 1, none⟩ = some (.slice na0 cs.length nc0)) := fun wx hx => (gra_cells (g := ⟨nam, ⟨na0, cs.length, nc0⟩, ⟨ia, vin.length, ic⟩, ⟨oa, oN, oc⟩, ⟨ta, its.length, tc⟩⟩) (BX.out wx (grown_trans g1 hx))).2.1
    go_region_held3 (fun w' => w'.cell? ⟨w.heap.size, 1, none⟩ = some (.slice na0 cs.length nc0)) (first | (refine KP.out _ ?_; repeat (first | exact grown_refl _ | refine grown_drew ?_ | refine grown_trans ?_ (grown_new _ _))) | go_keep) (fail)
    · go_wp2_with fail
      go_meet
      obtain ⟨t1, t2, t3, t4⟩ := three w1 (.cells M1 3) (.cells M2 29) (.cells #[.slice (some ⟨w1.heap.size, 0, none⟩) cs.length cs.length, .slice (some ⟨w1.heap.size + 1, 0, none⟩) cs.length cs.length] 181)
      exact ⟨_, _, _, rfl, t3, by omega, by omega, by omega, lk_made (Nat.le_refl _) (by omega) (by omega) (by omega) M1 M2 E1.out E2.out t1 t2, t4⟩
    · go_wp2_with fail
      go_meet
      obtain ⟨t1, t2, t3, t4⟩ := three w1 (.cells M1 3) (.cells #[.slice (some ⟨w1.heap.size, 0, none⟩) cs.length cs.length, .slice (some ⟨w1.heap.size + 1 + 1, 0, none⟩) cs.length cs.length] 181) (.cells M2 29)
      exact ⟨_, _, _, rfl, t2, by omega, by omega, by omega, lk_made (Nat.le_refl _) (by omega) (by omega) (by omega) M1 M2 E1.out E2.out t1 t3, t4⟩
    · go_wp2_with fail
      go_meet
      obtain ⟨t1, t2, t3, t4⟩ := three w1 (.cells M2 29) (.cells M1 3) (.cells #[.slice (some ⟨w1.heap.size + 1, 0, none⟩) cs.length cs.length, .slice (some ⟨w1.heap.size, 0, none⟩) cs.length cs.length] 181)
      exact ⟨_, _, _, rfl, t3, by omega, by omega, by omega, lk_made (by omega) (by omega) (by omega) (by omega) M1 M2 E1.out E2.out t2 t1, t4⟩
    · go_wp2_with fail
      go_meet
      obtain ⟨t1, t2, t3, t4⟩ := three w1 (.cells M2 29) (.cells #[.slice (some ⟨w1.heap.size + 1 + 1, 0, none⟩) cs.length cs.length, .slice (some ⟨w1.heap.size, 0, none⟩) cs.length cs.length] 181) (.cells M1 3)
      exact ⟨_, _, _, rfl, t2, by omega, by omega, by omega, lk_made (by omega) (by omega) (by omega) (by omega) M1 M2 E1.out E2.out t3 t1, t4⟩
    · go_wp2_with fail
      go_meet
      obtain ⟨t1, t2, t3, t4⟩ := three w1 (.cells #[.slice (some ⟨w1.heap.size + 1, 0, none⟩) cs.length cs.length, .slice (some ⟨w1.heap.size + 1 + 1, 0, none⟩) cs.length cs.length] 181) (.cells M1 3) (.cells M2 29)
      exact ⟨_, _, _, rfl, t1, by omega, by omega, by omega, lk_made (by omega) (by omega) (by omega) (by omega) M1 M2 E1.out E2.out t2 t3, t4⟩
    · go_wp2_with fail
      go_meet
      obtain ⟨t1, t2, t3, t4⟩ := three w1 (.cells #[.slice (some ⟨w1.heap.size + 1 + 1, 0, none⟩) cs.length cs.length, .slice (some ⟨w1.heap.size + 1, 0, none⟩) cs.length cs.length] 181) (.cells M2 29) (.cells M1 3)
      exact ⟨_, _, _, rfl, t1, by omega, by omega, by omega, lk_made (by omega) (by omega) (by omega) (by omega) M1 M2 E1.out E2.out t3 t2, t4⟩
  case rest =>
    obtain ⟨Q, Bw, Br, rfl, hQ, hq1, hq2, hq3, hlk, hg2⟩ := hcut
    have hQs : Q < wc.heap.size := by
      rcases Nat.lt_or_ge Q wc.heap.size with h | h
      · exact h
      · rw [Array.getElem?_eq_none h] at hQ
        cases hQ
    have ST0 : Hid (LSt w1 wc wc.heap.size Q Bw Br cs.length (linksN cs l (vin.length + its.length) 0) (List.replicate cs.length nilS)) := by
      refine ⟨hlk, hQ, fun k g e => ?_, hg2, Nat.le_refl _, hQs, hq1, hq2⟩
      rw [show (List.replicate cs.length nilS).getD k nilS = nilS by rw [List.getD, List.getElem?_replicate]; split <;> rfl] at e
      cases e
    obtain ⟨S, hS⟩ : ∃ S, S = wc.heap.size := ⟨_, rfl⟩
    rw [← hS] at ST0
    obtain ⟨r0, r1, r2, r3, r4⟩ := gra_cells (g := ⟨nam, ⟨na0, cs.length, nc0⟩, ⟨ia, vin.length, ic⟩, ⟨oa, oN, oc⟩, ⟨ta, its.length, tc⟩⟩) (BX.out wc (grown_trans g1 hg2))
    clear hQ hq1 hq2 hq3 hlk hS hQs hg2
    go_wp2_with fail
    clear r0 r1 r2 r3 r4
    go_loopg [23] cs.length (fun gh i wr => ∃ (k : Nat) (rs : List Sl), gh = cs.length - k ∧ k ≤ cs.length ∧ i = .int .i64 k ∧ LB cs.length (k * 1048576) (linksN cs l (vin.length + its.length) k) ∧ LSt w1 wr S Q Bw Br cs.length (linksN cs l (vin.length + its.length) k) rs)
    case atStart => exact ⟨0, _, rfl, Nat.zero_le _, rfl, by simpa [linksN] using LB.start cs.length, ST0.out⟩
    case round =>
      obtain ⟨k, rs, hgk, hk, rfl, hlb, hst⟩ := hrel
      have HLB := hide hlb
      have HST := hide hst
      have GR := hide (grown_trans (grown_trans g0 g1) hst.grown)
      clear hlb hst
      by_cases hlt : k < cs.length
      · have HLk := H1.out.more GR.out
        obtain ⟨b9, off, rfl⟩ := HLk.addr (by rw [List.length_map]; exact hlt)
        obtain ⟨a0, a1, a2, a3, a4⟩ := HLk.nod k (by rw [List.length_map]; exact hlt)
        have HC := hide (HIN.out cs[k] (List.getElem_mem hlt))
        have HK : Hid (cs[k]? = some cs[k]) := List.getElem?_eq_getElem hlt
        rw [List.getElem_map] at a0 a1 a2 a3 a4
        obtain ⟨C, hC⟩ : ∃ C, C = cs[k] := ⟨_, rfl⟩
        rw [← hC] at a0 a1 a2 a3 a4 HK HC
        clear HLk hC
        obtain ⟨⟨cop, cnam, ⟨ca, cN, cc⟩, cout, ⟨da, dN, dc⟩⟩, cins, cxs, ccs⟩ := C
        simp only [Sl.v] at a0 a1 a2 a3 a4 HC
        obtain ⟨xa, xc, e1, y1, y2, y3⟩ := HC.out.1.form
        obtain ⟨rfl, rfl, rfl⟩ : ca = xa ∧ cN = cins.length ∧ cc = xc := by simpa [Sl.v] using e1
        have hcl := HC.out.2.1
        clear e1
        obtain ⟨wv, hwv⟩ : ∃ wv, wv = wr.alloc (.cells #[.string cop, .string cnam, .slice ca cins.length cc, .string cout, .slice da dN dc] 25) := ⟨_, rfl⟩
        have STV : Hid (LSt w1 wv S Q Bw Br cs.length (linksN cs l (vin.length + its.length) k) rs) := by show LSt _ _ _ _ _ _ _ _ _; rw [hwv]; exact HST.out.new (grown_new _ _)
        go_wp2_with fail
        rw [← hwv]
        clear hwv a0 a1 a2 a3 a4
        go_loopg [31] cins.length (fun g2 j wx => ∃ (t : Nat) (rx : List Sl), g2 = cins.length - t ∧ t ≤ cins.length ∧ j = .int .i64 t ∧ LB cs.length (k * 1048576 + t) (lnkRow l (vin.length + its.length) k (linksN cs l (vin.length + its.length) k) (cins.take t)) ∧ LSt w1 wx S Q Bw Br cs.length (lnkRow l (vin.length + its.length) k (linksN cs l (vin.length + its.length) k) (cins.take t)) rx)
        case atStart => exact ⟨0, rs, rfl, Nat.zero_le _, rfl, by rw [List.take_zero]; exact HLB.out.le (Nat.le_add_right _ _), STV.out⟩
        case round =>
          obtain ⟨t, rx, hg2, ht, rfl, hlb, hst⟩ := hrel
          have HL2 := hide hlb
          have HS2 := hide hst
          have GX := hide (grown_trans (grown_trans g0 g1) hst.grown)
          have GX0 := hide (grown_trans g1 hst.grown)
          clear hlb hst
          by_cases htl : t < cins.length
          · have HVk := HC.out.1.more GX.out
            obtain ⟨vb, vo, rfl⟩ := HVk.addr htl
            have s0 := str_at HVk t htl
            have HX := hide (HC.out.2.2 _ (List.getElem_mem htl))
            have HR := hide (lnkRow_step l (vin.length + its.length) k (linksN cs l (vin.length + its.length) k) cins htl)
            obtain ⟨X, hX⟩ : ∃ X, X = cins[t] := ⟨_, rfl⟩
            rw [← hX] at s0 HX HR
            clear HVk hX
            obtain ⟨p, hp⟩ : ∃ p, p = lnkRow l (vin.length + its.length) k (linksN cs l (vin.length + its.length) k) (cins.take t) := ⟨_, rfl⟩
            rw [← hp] at HL2 HS2 HR
            clear hp
            obtain ⟨W, R⟩ := p
            obtain ⟨D, nD, d1, -, -, d4⟩ := HNU.out.more GX.out
            have D1 := hide d1
            have KX : Hid (keyOf Tryz.prog 9 (.string X) = some (.string X.data.toList)) := key_str (by have := HX.out.1; omega)
            have hpl := pos_lt HX.out.2
            have DA := hide (d4 _ _ (pos_at HX.out.2))
            have LB2 := hide (HL2.out.step (l := l) (k0 := vin.length + its.length) (i := k) (x := X) hlt (by rw [hl] at hpl; omega))
            unfold lnk at HR LB2
            obtain ⟨P, hP⟩ : ∃ P, P = pos l X := ⟨_, rfl⟩
            rw [← hP] at hpl DA HR LB2
            rw [hl] at hpl
            obtain ⟨r0, r1, r2, r3, r4⟩ := gra_cells (g := ⟨nam, ⟨some ⟨b9, off, none⟩, cs.length, nc0⟩, ⟨ia, vin.length, ic⟩, ⟨oa, oN, oc⟩, ⟨ta, its.length, tc⟩⟩) (BX.out wr (GX0.out))
            clear d1 d4 hP
            by_cases hk0 : vin.length + its.length ≤ P
            · rw [if_pos hk0] at HR LB2
              obtain ⟨m, rfl⟩ : ∃ m, P = vin.length + its.length + m := ⟨P - (vin.length + its.length), by omega⟩
              rw [Nat.add_sub_cancel_left] at HR LB2
              have hm : m < cs.length := by omega
              obtain ⟨l1, l2, lb1, lb2⟩ := HL2.out
              have l1 : W.length = cs.length := l1
              have l2 : R.length = cs.length := l2
              have hs := HS2.out
              obtain ⟨c0, c1⟩ := hs.lk.own.at (k := k) (by rw [l1]; exact hlt)
              obtain ⟨x0, x1⟩ := links_cells hs.box
              have hwb : 0 ≤ W.getD k 0 ∧ W.getD k 0 ≤ 4294967296 := by
                have := lb1 _ (getD_mem_or W k (by rw [l1]; exact hlt))
                omega
              have HI := hide (hs.inc k (W.getD k 0 + 1))
              obtain ⟨Wk, hWk⟩ : ∃ x, x = W.getD k 0 := ⟨_, rfl⟩
              simp only [← hWk] at c0 hwb HI HR LB2
              obtain ⟨hw1, hw2⟩ := hwb
              have DD : Hid (∀ cc : Int, cc = ((vin.length + its.length + m : Nat) : Int) → ∃ d : Int, cc - (vin.length : Int) = d ∧ d - (its.length : Int) = (m : Int) ∧ 0 ≤ d ∧ d ≤ 4194304 ∧ 0 ≤ cc ∧ cc ≤ 8388608) := fun cc h => ⟨cc - vin.length, rfl, by omega, by omega, by omega, by omega, by omega⟩
              clear hs lb1 lb2 hWk
              go_wp2_with (at_lookup; refine wpList_lookup_own_int _ rfl (.tmp 35) (.tmp 36) 118 rfl 9 3 .i64 strKeyed Tryz.underlying118 Tryz.underlying3 (zeroInt _) b nD D rfl D1.out (.string X) (.string X.data.toList) rfl KX.out ?_; intro cc hat hwc; obtain ⟨dd, hd1, hd2, hd3, hd4, hd5, hd6⟩ := DD.out cc (by have h := hat.symm.trans DA.out; simpa using h); clear hat hwc)
              clear c0 c1 x0 x1 r0 r1 r2 r3 r4 s0 hd1 hd2
              generalize wr.setCell ⟨Bw, k, none⟩ (.int .i64 (Wk + 1)) = wI at HI ⊢
              have hI := HI.out
              obtain ⟨-, y1⟩ := links_cells hI.box
              have HO := hide (hI.lk.each m (by rw [l2]; exact hm))
              have hca := World.ownsRow.cellAt hI.lk.row m (by rw [l2]; omega)
              have hfz := World.ownsRow.frozenAt hI.lk.row m
              have hrx : rx.length = R.length := hI.lk.len
              have hgl : rx.getD m nilS = rx[m]'(by omega) := by rw [List.getD, List.getElem?_eq_getElem]; rfl
              rw [List.getElem?_map, List.getElem?_eq_getElem (by omega), ← hgl] at hca
              have hrl : (R.getD m []).length ≤ 4294967296 := by
                have := (HL2.out.b2 (R.getD m []) (by rw [List.getD, List.getElem?_eq_getElem (by omega)]; exact List.getElem_mem _)).1
                omega
              have KS : Hid (∀ wx, wI.grownBy wx (rx.getD m nilS).v.ownBlock → wx.cell? ⟨Q, 1, none⟩ = some (.slice (some ⟨Br, 0, none⟩) cs.length cs.length) ∧ wx.cell? ⟨Br, m, none⟩ = some (.slice (rx.getD m nilS).a (rx.getD m nilS).n (rx.getD m nilS).c) ∧ wx.frozen? ⟨Br, m, none⟩ = false) := fun wx hx => by
                have k1 : wx.heap[Q]? = wI.heap[Q]? := hx.block Q (by have := hI.low; have := hI.size; omega) (fun e => by have := hI.high m Q e.symm; have := hI.low; omega)
                have k2 : wx.heap[Br]? = wI.heap[Br]? := hx.block Br (World.ownsRow.lt hI.lk.row Br rfl).2 (fun e => (hI.lk.apart m (by rw [l2]; exact hm) Br e.symm).2.1 rfl)
                exact ⟨(World.cell?_of_block k1).trans y1, (World.cell?_of_block k2).trans hca, (World.frozen?_of_block k2).trans hfz⟩
              obtain ⟨⟨sa, sn, sc⟩, hsl⟩ : ∃ s, s = rx.getD m nilS := ⟨_, rfl⟩
              have HSL := hide hsl
              rw [← hsl] at HO KS hca
              obtain ⟨sa', sc', hsv⟩ := own_form HO.out.1
              obtain ⟨rfl, rfl, rfl⟩ : sa = sa' ∧ sn = (R.getD m []).length ∧ sc = sc' := by simpa [Sl.v] using hsv
              obtain ⟨RM, hRM⟩ : ∃ x, x = R.getD m [] := ⟨_, rfl⟩
              have HRM := hide hRM
              simp only [← hRM] at HO KS hca hrl HR LB2 HSL
              simp only [Sl.v] at HO KS hca
              have hm0 : (0 : Int) ≤ (m : Int) := Int.natCast_nonneg _
              have hm1 : (m : Int) < (cs.length : Int) := by omega
              have hbs : w1.heap.size ≤ wI.heap.size := hI.grown.size
              have HS1 := hide l2
              clear hsl hsv hRM hgl hI l1 l2
              obtain ⟨ka1, ka2, ka3⟩ := KS.out (wI.alloc (.cells #[.int .i64 (k : Int)] 3)) (grown_allocr (World.grownBy.refl _ _) _)
              have OW : Hid (∀ o, ((wI.alloc o).drew).ownsRow w1.heap.size 3 1 (.slice sa RM.length sc) RM.length (RM.map (Value.int .i64))) := fun o => (HO.out.1.alloc _).drew
              have GA : Hid (∀ o row, wI.grownBy (wI.alloc o).drew row) := fun o row => grown_drewr (grown_allocr (World.grownBy.refl _ _) _)
              have AP : Hid (∀ (w8 : World) (gg cap : Nat), ((wI.alloc (.cells #[.int .i64 (k : Int)] 3)).drew).grownBy w8 (Value.slice sa RM.length sc).ownBlock → w8.ownsRow w1.heap.size 3 1 (.slice (some ⟨gg, 0, none⟩) (RM.length + 1) cap) (RM.length + 1) (RM.map (Value.int .i64) ++ [.int .i64 (k : Int)]) → ((Value.slice sa RM.length sc).ownBlock = some gg ∨ gg = wI.heap.size + 1) →
                  LSt w1 (w8.setCell ⟨Br, m, none⟩ (.slice (some ⟨gg, 0, none⟩) (RM.length + 1) cap)) S Q Bw Br cs.length (W.set k (Wk + 1), R.set m (RM ++ [(k : Int)])) (rx.set m ⟨some ⟨gg, 0, none⟩, RM.length + 1, cap⟩)) := by
                intro w8 gg cap hg ho hat
                have h := HI.out.new (GA.out (.cells #[.int .i64 (k : Int)] 3) none)
                have e := HSL.out
                have hf := LSt.app h (m := m) (by have := HS1.out; omega) (v' := ⟨some ⟨gg, 0, none⟩, RM.length + 1, cap⟩) (i := k) (by rw [← e]; exact hg) (by rw [← HRM.out]; exact ho) (by
                  rcases hat with h1 | h1
                  · left
                    rw [← e]
                    exact h1.symm
                  · right
                    rw [h1]
                    show some _ = some _
                    simp) (by omega) (by rw [← HRM.out]; omega)
                rw [← HRM.out] at hf
                exact hf
              go_region_law (refine step_append_lies _ (by rfl) (.tmp 62) (.tmp 64) 29 (by rfl) w1.heap.size 3 i0 (.int .i64 0) 1 8 Tryz.underlying29 hi hz0 hz1 hz2 (by rfl) (by decide) (.slice sa RM.length sc) RM.length (RM.map (Value.int .i64)) (by rfl) (by exact OW.out _) ⟨wI.heap.size, 0, none⟩ 1 1 [.int .i64 (k : Int)] (by rfl) (by rfl) (by exact World.news_of_block (heap_alloc_new wI _)) (by simp [Value.oneCell']) (by omega) (by simp only [maxLen]; omega) (by omega) (by simp; omega) (wI.heap.size + 1) (by simp) ?_; intro gg cap w8 hown8 hgrow hat hlt8; obtain ⟨kb1, kb2, kb3⟩ := KS.out w8 (World.grownBy.trans (GA.out _ _) hgrow))
              all_goals
                have FIN := hide (AP.out w8 gg cap hgrow hown8 hat)
                clear hgrow hown8 hat hlt8 kb1 kb2 kb3 ka1 ka2 ka3 hca hfz y1
                go_wp2_with fail
                go_roundg (cins.length - (t + 1))
                case measure => omega
                case rel => exact ⟨t + 1, _, rfl, by omega, by go_num, by rw [HR.out]; exact LB2.out.le (by omega), by rw [HR.out]; exact FIN.out⟩
            · rw [if_neg hk0] at HR LB2
              go_wp2_with (at_lookup; refine wpList_lookup_own_int _ rfl (.tmp 35) (.tmp 36) 118 rfl 9 3 .i64 strKeyed Tryz.underlying118 Tryz.underlying3 (zeroInt _) b nD D rfl D1.out (.string X) (.string X.data.toList) rfl KX.out ?_; intro cc hat hwc; obtain rfl : cc = (P : Int) := (by have h := hat.symm.trans DA.out; simpa using h); clear hat hwc)
              go_roundg (cins.length - (t + 1))
              case measure => omega
              case rel => exact ⟨t + 1, rx, rfl, by omega, by go_num, by rw [HR.out]; exact LB2.out.le (by omega), by rw [HR.out]; exact HS2.out⟩
          · obtain rfl : t = cins.length := by omega
            rw [List.take_of_length_le (Nat.le_refl _)] at HL2 HS2
            have HE : Hid (linksN cs l (vin.length + its.length) (k + 1) = lnkRow l (vin.length + its.length) k (linksN cs l (vin.length + its.length) k) cins) := by show _ = _; rw [linksN, HK.out]; rfl
            go_wp2_with fail
            go_roundg (cs.length - (k + 1))
            case measure => omega
            case rel => exact ⟨k + 1, rx, rfl, by omega, by go_num, by rw [HE.out]; exact HL2.out.le (by omega), by rw [HE.out]; exact HS2.out⟩
      · obtain rfl : k = cs.length := by omega
        obtain ⟨c0, c1⟩ := links_cells HST.out.box
        have hb := RX.out _ HST.out.grown
        rw [hS0.out] at hb
        obtain ⟨d0, d1⟩ := links_cells hb
        have z0 := frozen_of_row _ _ 0 _ _ hb
        have z1 := frozen_of_row _ _ 1 _ _ hb
        have HB := hide hb
        clear hb
        go_wp2_with fail
        obtain ⟨hX, gX⟩ := store2l (.slice (some ⟨Bw, 0, none⟩) cs.length cs.length) (.slice (some ⟨Br, 0, none⟩) cs.length cs.length) HB.out
        refine bodyPost_ret (ret_links rfl _ _ (w.heap.size + 1) rfl hX) rfl ?_
        have q0 := hS0.out
        have q1 := hS1.out
        exact ⟨Bw, Br, rs, rfl, (HST.out.lk.past (by omega) gX).base_le (by omega), grown_trans_row GR.out gX (fun g e => by injection e with e; omega)⟩
end Go.Proofs.YtdcbjikjeicgbaaGreatDoor

/- A graph's parts, and whether there are too many, by the walk. -/
namespace Go.Proofs.YtdcbjikjeicgbaaGreatDoor
open Go.RowKit

/-- Are there too many? -/
def manyF (nn vi vo it : Nat) : Bool := decide (1000 < nn) || decide (3000 < vi + it + nn) || decide (3000 < vo)

set_option maxRecDepth 100000 in
set_option maxHeartbeats 3200000 in
theorem toomany_any (g : Gra) (w : World) (h1 : g.nv.n ≤ 1048576) (h2 : g.iv.n ≤ 1048576) (h3 : g.ov.n ≤ 1048576) (h4 : g.tv.n ≤ 1048576) :
    Calls Tryz.prog 147 #[gval g] w fun e w' => e = .returned (.bool (manyF g.nv.n g.iv.n g.ov.n g.tv.n)) ∧ w.grownBy w' none := by
  obtain ⟨nam, ⟨na0, nn0, nc0⟩, ⟨ia, iN, ic⟩, ⟨oa, oN, oc⟩, ⟨ta, tN, tc⟩⟩ := g
  unfold gval
  simp only at h1 h2 h3 h4 ⊢
  obtain ⟨w0, hw0⟩ : ∃ w0, w0 = w.alloc (.cells #[.string nam, .slice na0 nn0 nc0, .slice ia iN ic, .slice oa oN oc, .slice ta tN tc] 42) := ⟨_, rfl⟩
  have g0 : w.grownBy w0 none := by rw [hw0]; exact grown_new _ _
  have b0 := heap_alloc_new w (.cells #[.string nam, .slice na0 nn0 nc0, .slice ia iN ic, .slice oa oN oc, .slice ta tN tc] 42)
  obtain ⟨r0, r1, r2, r3, r4⟩ := gra_cells (g := ⟨nam, ⟨na0, nn0, nc0⟩, ⟨ia, iN, ic⟩, ⟨oa, oN, oc⟩, ⟨ta, tN, tc⟩⟩) b0
  clear b0
  by_cases a1 : 1000 < nn0
  · have A : (1000 : Int) < (nn0 : Int) := by omega
    have E : Hid (manyF nn0 iN oN tN = true) := by show _ = _; unfold manyF; simp [a1]
    clear a1
    go_enter Tryz.func147, Tryz.ntmps147
    go_wp2
    rw [← hw0]
    go_ret
    exact ⟨by rw [E.out]; rfl, g0⟩
  · have A : ¬ (1000 : Int) < (nn0 : Int) := by omega
    by_cases a2 : 3000 < iN + tN + nn0
    · have A2 : (3000 : Int) < (iN : Int) + (tN : Int) + (nn0 : Int) := by omega
      have E : Hid (manyF nn0 iN oN tN = true) := by show _ = _; unfold manyF; simp [a2]
      clear a1 a2
      go_enter Tryz.func147, Tryz.ntmps147
      go_wp2
      rw [← hw0]
      go_ret
      exact ⟨by rw [E.out]; rfl, g0⟩
    · have A2 : ¬ (3000 : Int) < (iN : Int) + (tN : Int) + (nn0 : Int) := by omega
      have E : Hid (manyF nn0 iN oN tN = decide (3000 < (oN : Int))) := by
        show _ = _
        unfold manyF
        rw [decide_eq_false a1, decide_eq_false a2, Bool.false_or, Bool.false_or]
        exact decide_eq_decide.2 (by omega)
      clear a1 a2
      go_enter Tryz.func147, Tryz.ntmps147
      go_wp2
      rw [← hw0]
      go_ret
      exact ⟨by rw [E.out]; rfl, g0⟩
end Go.Proofs.YtdcbjikjeicgbaaGreatDoor

/- Each part of a graph by itself, by the walk. -/
namespace Go.Proofs.YtdcbjikjeicgbaaGreatDoor
open Go.RowKit

/-- The first of several that is an error. -/
def firstE : List Int → Int
  | [] => 0
  | e :: l => if e = 0 then firstE l else e

theorem firstE_step {l r : List Int} {k : Nat} {z : Int} (hk : l[k]? = some z) : firstE (l.drop k ++ r) = if z = 0 then firstE (l.drop (k + 1) ++ r) else z := by
  have hl := (List.getElem?_eq_some_iff.1 hk).1
  rw [List.drop_eq_getElem_cons hl, List.cons_append, firstE]
  rw [List.getElem?_eq_getElem hl] at hk
  rw [Option.some.inj hk]

def valE (p : Val × List Int) : Int := if chk p.1.ty 0 = true then cntE p.2 else 5
def namE (p : Nam × List Int × List Int) : Int := pbE p.1.ty p.2.1 p.2.2
def nodE (c : Nc) : Int := checkF (ruleF c.n.op) c.n.op c.ins c.n.out c.xs c.cs

/-- What checkParts answers. -/
def partsF (cs : List Nc) (vin : List (Val × List Int)) (its : List (Nam × List Int × List Int)) : Int := firstE (vin.map valE ++ (its.map namE ++ cs.map nodE))

set_option maxRecDepth 100000 in
set_option maxHeartbeats 6400000 in
theorem checkparts_any (g : Gra) (cs : List Nc) (vin vout : List (Val × List Int)) (its : List (Nam × List Int × List Int)) (w : World) (hl : Laid w) (hg : GraphIn w g cs vin vout its) :
    Calls Tryz.prog 148 #[gval g] w fun e w' => e = .returned (.int .i64 (partsF cs vin its)) ∧ w.grownBy w' none := by
  have HL := hide hl
  have HG := hide hg
  obtain ⟨f1, f2, -, f4⟩ := hg.few
  obtain ⟨nam, ⟨na0, nn0, nc0⟩, ⟨ia, iN, ic⟩, ⟨oa, oN, oc⟩, ⟨ta, tN, tc⟩⟩ := g
  obtain ⟨xa, xc, e1, p1, p2, p3⟩ := hg.nodes.form
  rw [List.length_map] at e1 p1 p3
  obtain ⟨rfl, rfl, rfl⟩ : na0 = xa ∧ nn0 = cs.length ∧ nc0 = xc := by simpa [Sl.v] using e1
  obtain ⟨ya, yc, e2, p4, p5, p6⟩ := hg.ins.form
  rw [List.length_map] at e2 p4 p6
  obtain ⟨rfl, rfl, rfl⟩ : ia = ya ∧ iN = vin.length ∧ ic = yc := by simpa [Sl.v] using e2
  obtain ⟨qa, qc, e4, p10, p11, p12⟩ := hg.inits.form
  rw [List.length_map] at e4 p10 p12
  obtain ⟨rfl, rfl, rfl⟩ : ta = qa ∧ tN = its.length ∧ tc = qc := by simpa [Sl.v] using e4
  obtain ⟨T, hT⟩ : ∃ T, T = partsF cs vin its := ⟨_, rfl⟩
  have HT : Hid (T = firstE ((vin.map valE).drop 0 ++ (its.map namE ++ cs.map nodE))) := hT
  rw [← hT]
  clear hg e1 e2 e4 hl hT
  unfold gval
  simp only
  obtain ⟨w0, hw0⟩ : ∃ w0, w0 = w.alloc (.cells #[.string nam, .slice na0 cs.length nc0, .slice ia vin.length ic, .slice oa oN oc, .slice ta its.length tc] 42) := ⟨_, rfl⟩
  have g0 : w.grownBy w0 none := by rw [hw0]; exact grown_new _ _
  have b0 := heap_alloc_new w (.cells #[.string nam, .slice na0 cs.length nc0, .slice ia vin.length ic, .slice oa oN oc, .slice ta its.length tc] 42)
  obtain ⟨r0, r1, r2, r3, r4⟩ := gra_cells (g := ⟨nam, ⟨na0, cs.length, nc0⟩, ⟨ia, vin.length, ic⟩, ⟨oa, oN, oc⟩, ⟨ta, its.length, tc⟩⟩) b0
  rw [← hw0] at b0
  have BX : Hid (∀ wx, w0.grownBy wx none → wx.heap[w.heap.size]? = some (.cells #[.string nam, .slice na0 cs.length nc0, .slice ia vin.length ic, .slice oa oN oc, .slice ta its.length tc] 42 (0, 0))) := fun wx hx => box_kept b0 hx
  clear b0
  go_enter Tryz.func148, Tryz.ntmps148
  go_wp2_with fail
  rw [← hw0]
  clear hw0 r0 r1 r2 r3 r4
  go_loopg [16] vin.length (fun gh i wr => w0.grownBy wr none ∧ ∃ k : Nat, gh = vin.length - k ∧ k ≤ vin.length ∧ i = .int .i64 k ∧ T = firstE ((vin.map valE).drop k ++ (its.map namE ++ cs.map nodE)))
  case atStart => exact ⟨grown_refl _, 0, rfl, Nat.zero_le _, rfl, HT.out⟩
  case round =>
    obtain ⟨hgr, k, hgk, hk, rfl, htk⟩ := hrel
    have HTK := hide htk
    clear htk
    by_cases hlt : k < vin.length
    · have HLk := HG.out.ins.more (grown_trans g0 hgr)
      obtain ⟨b, off, rfl⟩ := HLk.addr (by rw [List.length_map]; exact hlt)
      obtain ⟨a0, a1, a2⟩ := HLk.val k (by rw [List.length_map]; exact hlt)
      have HD := hide ((HG.out.din vin[k] (List.getElem_mem hlt)).more (grown_trans g0 hgr))
      have HE := hide (firstE_step (l := vin.map valE) (r := its.map namE ++ cs.map nodE) (k := k) (z := valE vin[k]) (by rw [List.getElem?_map, List.getElem?_eq_getElem hlt]; rfl))
      rw [List.getElem_map] at a0 a1 a2
      obtain ⟨A, hA⟩ : ∃ A, A = vin[k] := ⟨_, rfl⟩
      rw [← hA] at a0 a1 a2 HD HE
      clear HLk hA
      obtain ⟨⟨vn, vt, ⟨da, dN, dc⟩⟩, ds⟩ := A
      simp only [Sl.v] at a0 a1 a2 HD
      obtain ⟨W, hW⟩ : ∃ W, W = wr.alloc (.cells #[.string vn, .int .i64 vt, .slice da dN dc] 31) := ⟨_, rfl⟩
      have gW : w0.grownBy W none := by rw [hW]; exact grown_trans hgr (grown_new _ _)
      have HDW : Hid (IsInts W (.slice da dN dc) ds) := by show IsInts _ _ _; rw [hW]; exact HD.out.more (grown_new _ _)
      have bW := heap_alloc_new wr (.cells #[.string vn, .int .i64 vt, .slice da dN dc] 31)
      rw [← hW] at bW
      go_wp2_with fail
      rw [← hW]
      clear hW a0 a1 a2
      refine (numck_any vt 0 W).mono ?_
      rintro e w2 ⟨rfl, rfl⟩
      have v2 : w2.cell? ⟨wr.heap.size, 2, none⟩ = some (.slice da dN dc) := (cell_of_row _ _ 2 _ _ (0, 0) bW).trans rfl
      cases hc : chk vt 0 with
      | false =>
        have E : Hid (T = 5) := by show _ = _; rw [HTK.out, HE.out]; unfold valE; rw [hc]; rfl
        clear hc bW
        go_wp2
        go_ret
        exact ⟨by rw [E.out]; rfl, grown_trans g0 gW⟩
      | true =>
        have E0 : Hid (valE (⟨vn, vt, ⟨da, dN, dc⟩⟩, ds) = cntE ds) := by show _ = _; unfold valE; rw [if_pos hc]
        clear hc bW
        go_wp2_with fail
        refine (count_any _ ds w2 HDW.out).mono ?_
        rintro e w3 ⟨rfl, rfl⟩
        by_cases hz : cntE ds = 0
        · have E : Hid (T = firstE ((vin.map valE).drop (k + 1) ++ (its.map namE ++ cs.map nodE))) := by show _ = _; rw [HTK.out, HE.out, if_pos (by rw [E0.out, hz])]
          rw [hz]
          clear hz
          go_wp2_with fail
          go_roundg (vin.length - (k + 1))
          case measure => omega
          case rel => exact ⟨gW, k + 1, rfl, by omega, by go_num, E.out⟩
        · have E : Hid (T = cntE ds) := by show _ = _; rw [HTK.out, HE.out, if_neg (by rw [E0.out]; exact hz), E0.out]
          have hzb : (cntE ds != 0) = true := by simpa using hz
          obtain ⟨ce, hce⟩ : ∃ ce, ce = cntE ds := ⟨_, rfl⟩
          rw [← hce] at hz hzb E ⊢
          clear hce
          go_wp2
          go_ret
          exact ⟨by rw [E.out]; rfl, grown_trans g0 gW⟩
    · obtain rfl : k = vin.length := by omega
      rw [List.drop_of_length_le (by simp), List.nil_append] at HTK
      have HTA : Hid (T = firstE ((its.map namE).drop 0 ++ cs.map nodE)) := HTK.out
      obtain ⟨r0, r1, r2, r3, r4⟩ := gra_cells (g := ⟨nam, ⟨na0, cs.length, nc0⟩, ⟨ia, vin.length, ic⟩, ⟨oa, oN, oc⟩, ⟨ta, its.length, tc⟩⟩) (BX.out wr hgr)
      obtain ⟨wp, hwp⟩ : ∃ wp, wp = wr := ⟨_, rfl⟩
      rw [← hwp] at hgr r0 r1 r2 r3 r4 ⊢
      clear hwp HTK
      have hgp := hgr
      clear hgr
      go_wp2_with fail
      clear r0 r1 r2 r3 r4
      go_loopg [37] its.length (fun gh i wr => w0.grownBy wr none ∧ ∃ k : Nat, gh = its.length - k ∧ k ≤ its.length ∧ i = .int .i64 k ∧ T = firstE ((its.map namE).drop k ++ cs.map nodE))
      case atStart => exact ⟨hgp, 0, rfl, Nat.zero_le _, rfl, HTA.out⟩
      case round =>
        obtain ⟨hgr, k, hgk2, hk2, rfl, htk⟩ := hrel
        have HTK := hide htk
        clear htk
        by_cases hlt2 : k < its.length
        · have HLk := HG.out.inits.more (grown_trans g0 hgr)
          obtain ⟨b, off, rfl⟩ := HLk.addr (by rw [List.length_map]; exact hlt2)
          obtain ⟨a0, a1, a2, a3⟩ := HLk.nam k (by rw [List.length_map]; exact hlt2)
          have HD := hide (HG.out.dinit its[k] (List.getElem_mem hlt2))
          have HE := hide (firstE_step (l := its.map namE) (r := cs.map nodE) (k := k) (z := namE its[k]) (by rw [List.getElem?_map, List.getElem?_eq_getElem hlt2]; rfl))
          rw [List.getElem_map] at a0 a1 a2 a3
          obtain ⟨A, hA⟩ : ∃ A, A = its[k] := ⟨_, rfl⟩
          rw [← hA] at a0 a1 a2 a3 HD HE
          clear HLk hA
          obtain ⟨⟨vn, vt, ⟨da, dN, dc⟩, ⟨ea, eN, ec⟩⟩, ds, ts⟩ := A
          simp only [Sl.v] at a0 a1 a2 a3 HD
          obtain ⟨W, hW⟩ : ∃ W, W = wr.alloc (.cells #[.string vn, .int .i64 vt, .slice da dN dc, .slice ea eN ec] 74) := ⟨_, rfl⟩
          have gW : w0.grownBy W none := by rw [hW]; exact grown_trans hgr (grown_new _ _)
          have PC := hide (pbcheck_any vt (.slice da dN dc) (.slice ea eN ec) ds ts W (HD.out.1.more (grown_trans g0 gW)) (HD.out.2.more (grown_trans g0 gW)))
          have E0 : Hid (namE (⟨vn, vt, ⟨da, dN, dc⟩, ⟨ea, eN, ec⟩⟩, ds, ts) = pbE vt ds ts) := rfl
          obtain ⟨ce, hce⟩ : ∃ ce, ce = pbE vt ds ts := ⟨_, rfl⟩
          rw [← hce] at PC E0
          clear hce
          go_wp2_with fail
          rw [← hW]
          clear hW a0 a1 a2 a3
          refine PC.out.mono ?_
          rintro e w2 ⟨rfl, hg2⟩
          by_cases hz : ce = 0
          · have E : Hid (T = firstE ((its.map namE).drop (k + 1) ++ cs.map nodE)) := by show _ = _; rw [HTK.out, HE.out, if_pos (by rw [E0.out, hz])]
            rw [hz]
            clear hz
            go_wp2_with fail
            go_roundg (its.length - (k + 1))
            case measure => omega
            case rel => exact ⟨grown_trans gW hg2, k + 1, rfl, by omega, by go_num, E.out⟩
          · have E : Hid (T = ce) := by show _ = _; rw [HTK.out, HE.out, if_neg (by rw [E0.out]; exact hz), E0.out]
            have hzb : (ce != 0) = true := by simpa using hz
            go_wp2
            go_ret
            exact ⟨by rw [E.out]; rfl, grown_trans (grown_trans g0 gW) hg2⟩
        · obtain rfl : k = its.length := by omega
          rw [List.drop_of_length_le (by simp), List.nil_append] at HTK
          have HTB : Hid (T = firstE ((cs.map nodE).drop 0 ++ [])) := by show _ = _; rw [List.append_nil]; exact HTK.out
          obtain ⟨r0, r1, r2, r3, r4⟩ := gra_cells (g := ⟨nam, ⟨na0, cs.length, nc0⟩, ⟨ia, vin.length, ic⟩, ⟨oa, oN, oc⟩, ⟨ta, its.length, tc⟩⟩) (BX.out wr hgr)
          obtain ⟨wq, hwq⟩ : ∃ wq, wq = wr := ⟨_, rfl⟩
          rw [← hwq] at hgr r0 r1 r2 r3 r4 ⊢
          clear hwq HTK
          have hgq := hgr
          clear hgr
          go_wp2_with fail
          clear r0 r1 r2 r3 r4
          go_loopg [51] cs.length (fun gh i wr => w0.grownBy wr none ∧ ∃ k : Nat, gh = cs.length - k ∧ k ≤ cs.length ∧ i = .int .i64 k ∧ T = firstE ((cs.map nodE).drop k ++ []))
          case atStart => exact ⟨hgq, 0, rfl, Nat.zero_le _, rfl, HTB.out⟩
          case round =>
            obtain ⟨hgr, k, hgk3, hk3, rfl, htk⟩ := hrel
            have HTK := hide htk
            clear htk
            by_cases hlt3 : k < cs.length
            · have HLk := HG.out.nodes.more (grown_trans g0 hgr)
              obtain ⟨b, off, rfl⟩ := HLk.addr (by rw [List.length_map]; exact hlt3)
              obtain ⟨a0, a1, a2, a3, a4⟩ := HLk.nod k (by rw [List.length_map]; exact hlt3)
              have HD := hide (HG.out.node cs[k] (List.getElem_mem hlt3))
              have HE := hide (firstE_step (l := cs.map nodE) (r := []) (k := k) (z := nodE cs[k]) (by rw [List.getElem?_map, List.getElem?_eq_getElem hlt3]; rfl))
              rw [List.getElem_map] at a0 a1 a2 a3 a4
              obtain ⟨A, hA⟩ : ∃ A, A = cs[k] := ⟨_, rfl⟩
              rw [← hA] at a0 a1 a2 a3 a4 HD HE
              clear HLk hA
              obtain ⟨⟨cop, cnam, ⟨ca, cN, cc⟩, cout, ⟨da, dN, dc⟩⟩, cins, cxs, ccs⟩ := A
              simp only at a0 a1 a2 a3 a4
              obtain ⟨W, hW⟩ : ∃ W, W = wr.alloc (.cells #[.string cop, .string cnam, .slice ca cN cc, .string cout, .slice da dN dc] 25) := ⟨_, rfl⟩
              have gW : w0.grownBy W none := by rw [hW]; exact grown_trans hgr (grown_new _ _)
              have PC := hide (check_in ⟨cop, cnam, ⟨ca, cN, cc⟩, cout, ⟨da, dN, dc⟩⟩ cins cxs ccs W (HL.out.more (grown_trans g0 gW)) (HD.out.more (grown_trans g0 gW)))
              have E0 : Hid (nodE ⟨⟨cop, cnam, ⟨ca, cN, cc⟩, cout, ⟨da, dN, dc⟩⟩, cins, cxs, ccs⟩ = checkF (ruleF cop) cop cins cout cxs ccs) := rfl
              unfold nval at PC
              simp only at PC
              obtain ⟨ce, hce⟩ : ∃ ce, ce = checkF (ruleF cop) cop cins cout cxs ccs := ⟨_, rfl⟩
              rw [← hce] at PC E0
              clear hce
              go_wp2_with fail
              rw [← hW]
              clear hW a0 a1 a2 a3 a4
              refine PC.out.mono ?_
              rintro e w2 ⟨rfl, hg2⟩
              by_cases hz : ce = 0
              · have E : Hid (T = firstE ((cs.map nodE).drop (k + 1) ++ [])) := by show _ = _; rw [HTK.out, HE.out, if_pos (by rw [E0.out, hz])]
                rw [hz]
                clear hz
                go_wp2_with fail
                go_roundg (cs.length - (k + 1))
                case measure => omega
                case rel => exact ⟨grown_trans gW hg2, k + 1, rfl, by omega, by go_num, E.out⟩
              · have E : Hid (T = ce) := by show _ = _; rw [HTK.out, HE.out, if_neg (by rw [E0.out]; exact hz), E0.out]
                have hzb : (ce != 0) = true := by simpa using hz
                go_wp2
                go_ret
                exact ⟨by rw [E.out]; rfl, grown_trans (grown_trans g0 gW) hg2⟩
            · obtain rfl : k = cs.length := by omega
              rw [List.drop_of_length_le (by simp), List.nil_append] at HTK
              have E : Hid (T = 0) := HTK.out
              go_wp2
              go_ret
              exact ⟨by rw [E.out]; rfl, grown_trans g0 hgr⟩
end Go.Proofs.YtdcbjikjeicgbaaGreatDoor

/- The order of work of any graph, by the walk. -/
namespace Go.Proofs.YtdcbjikjeicgbaaGreatDoor
open Go.RowKit

/-- The names of a graph's values, in their order. -/
def vnames (cs : List Nc) (vin : List (Val × List Int)) (its : List (Nam × List Int × List Int)) : List ByteArray := (vin.map (·.1)).map (·.name) ++ (its.map (·.1)).map (·.name) ++ (cs.map (·.n)).map (·.out)

def onames (vout : List (Val × List Int)) : List ByteArray := (vout.map (·.1)).map (·.name)

theorem vnames_len (cs : List Nc) (vin : List (Val × List Int)) (its : List (Nam × List Int × List Int)) : (vnames cs vin its).length = vin.length + its.length + cs.length := by simp [vnames, Nat.add_assoc]

/-- A graph that comes in, whose names are not too long. -/
structure GraphOk (w : World) (g : Gra) (cs : List Nc) (vin vout : List (Val × List Int)) (its : List (Nam × List Int × List Int)) : Prop where
  base : GraphIn w g cs vin vout its
  vs : ∀ x ∈ vnames cs vin its, x.size ≤ 1048576
  os : ∀ x ∈ onames vout, x.size ≤ 1048576
  is : ∀ c ∈ cs, c.ins.length ≤ 1048576 ∧ ∀ x ∈ c.ins, x.size ≤ 1048576

theorem GraphOk.more {w w' : World} {g : Gra} {cs : List Nc} {vin vout : List (Val × List Int)} {its : List (Nam × List Int × List Int)} (h : GraphOk w g cs vin vout its) (hg : w.grownBy w' none) : GraphOk w' g cs vin vout its :=
  ⟨h.base.more hg, h.vs, h.os, h.is⟩

/-- The nodes in their order, as far as there is one. -/
def lineF (cs : List Nc) (vin : List (Val × List Int)) (its : List (Nam × List Int × List Int)) : List Int :=
  ordF cs.length (linksN cs (vnames cs vin its) (vin.length + its.length) cs.length).1 (linksN cs (vnames cs vin its) (vin.length + its.length) cs.length).2

/-- What Order answers. -/
def orderR (cs : List Nc) (vin vout : List (Val × List Int)) (its : List (Nam × List Int × List Int)) : List Int × Int :=
  if manyF cs.length vin.length vout.length its.length = true then ([], 6)
  else if partsF cs vin its ≠ 0 then ([], partsF cs vin its)
  else if (namesOK [] (vnames cs vin its) && foundF cs (onames vout) (vnames cs vin its)) = false then ([], 4)
  else if (lineF cs vin its).length < cs.length then ([], 4)
  else (lineF cs vin its, 0)

theorem Lk.rds {w : World} {base Bw Br n : Nat} {p : List Int × List (List Int)} {rs : List Sl} (h : Lk w base Bw Br p rs) (hn : p.2.length = n) : Rds w ⟨some ⟨Br, 0, none⟩, n, n⟩ p.2 Bw := by
  refine ⟨hn.symm, fun k hk => ⟨Br, 0, rs.getD k nilS, rfl, fun wx hx => ?_⟩⟩
  have hB := (World.ownsRow.lt h.row Br rfl).2
  have hb : wx.heap[Br]? = w.heap[Br]? := hx.block Br hB (fun e => by injection e with e; exact h.ne e.symm)
  have hl : k < rs.length := by rw [h.len]; exact hk
  refine ⟨?_, ((h.each k hk).more hx (some_or fun g e => by have := (h.apart k hk g e).1; simpa using this)).ints⟩
  rw [Nat.zero_add]
  refine (World.cell?_of_block hb).trans ((World.ownsRow.cellAt h.row k (by omega)).trans ?_)
  rw [List.getElem?_map, List.getElem?_eq_getElem hl, List.getD, List.getElem?_eq_getElem hl]
  rfl

theorem linksN_lb (cs : List Nc) (l : List ByteArray) (k0 : Nat) (hl : l.length = k0 + cs.length) (hin : ∀ c ∈ cs, c.ins.length ≤ 1048576 ∧ ∀ x ∈ c.ins, inL x l = true) : ∀ k, k ≤ cs.length → LB cs.length (k * 1048576) (linksN cs l k0 k)
  | 0, _ => by
    rw [Nat.zero_mul]
    exact LB.start cs.length
  | k + 1, hk => by
    have ih := linksN_lb cs l k0 hl hin k (by omega)
    have hc := hin cs[k] (List.getElem_mem (by omega))
    have e : linksN cs l k0 (k + 1) = lnkRow l k0 k (linksN cs l k0 k) cs[k].ins := by
      rw [linksN, List.getElem?_eq_getElem (by omega)]
      rfl
    have st : ∀ t, t ≤ cs[k].ins.length → LB cs.length (k * 1048576 + t) (lnkRow l k0 k (linksN cs l k0 k) (cs[k].ins.take t)) := by
      intro t
      induction t with
      | zero => intro _; rw [List.take_zero]; exact ih.le (Nat.le_add_right _ _)
      | succ t iht =>
        intro ht
        rw [lnkRow_step _ _ _ _ _ (by omega)]
        have hp := pos_lt (hc.2 (cs[k].ins[t]'(by omega)) (List.getElem_mem _))
        exact ((iht (by omega)).step (by omega) (by omega)).le (by omega)
    have fin := st cs[k].ins.length (Nat.le_refl _)
    rw [List.take_of_length_le (Nat.le_refl _), ← e] at fin
    exact fin.le (by have := hc.1; omega)

set_option maxRecDepth 100000 in
set_option maxHeartbeats 6400000 in
theorem order_any (g : Gra) (cs : List Nc) (vin vout : List (Val × List Int)) (its : List (Nam × List Int × List Int)) (w : World) (hl : Laid w) (hg : GraphOk w g cs vin vout its) :
    Calls Tryz.prog 78 #[gval g] w fun e w' => ∃ u : Sl, e = .returned (.tuple #[u.v, .int .i64 (orderR cs vin vout its).2]) ∧ Owns w' w.heap.size u.v (orderR cs vin vout its).1 ∧ w.grownBy w' none := by
  obtain ⟨f1, f2, f3, f4⟩ := hg.base.few
  have e1 : g.nv.n = cs.length := by obtain ⟨_, _, e, -⟩ := hg.base.nodes.form; rw [List.length_map] at e; simp only [Sl.v, Value.slice.injEq] at e; exact e.2.1
  have e2 : g.iv.n = vin.length := by obtain ⟨_, _, e, -⟩ := hg.base.ins.form; rw [List.length_map] at e; simp only [Sl.v, Value.slice.injEq] at e; exact e.2.1
  have e3 : g.ov.n = vout.length := by obtain ⟨_, _, e, -⟩ := hg.base.outs.form; rw [List.length_map] at e; simp only [Sl.v, Value.slice.injEq] at e; exact e.2.1
  have e4 : g.tv.n = its.length := by obtain ⟨_, _, e, -⟩ := hg.base.inits.form; rw [List.length_map] at e; simp only [Sl.v, Value.slice.injEq] at e; exact e.2.1
  have LV := hide (vnames_len cs vin its)
  have TM := hide (fun wx : World => toomany_any g wx (by omega) (by omega) (by omega) (by omega))
  rw [e1, e2, e3, e4] at TM
  have CP := hide (fun (wx : World) (hx : w.grownBy wx none) => checkparts_any g cs vin vout its wx (hl.more hx) (hg.base.more hx))
  have VN := hide (fun (wx : World) (hx : w.grownBy wx none) => valuenames_any g (cs.map (·.n)) (vin.map (·.1)) (vout.map (·.1)) (its.map (·.1)) wx (hg.base.nodes.more hx) (hg.base.ins.more hx) (hg.base.outs.more hx) (hg.base.inits.more hx) ⟨by rw [List.length_map]; exact f1, by rw [List.length_map]; exact f2, by rw [List.length_map]; exact f3, by rw [List.length_map]; exact f4⟩)
  rw [show (vin.map (·.1)).map (·.name) ++ (its.map (·.1)).map (·.name) ++ (cs.map (·.n)).map (·.out) = vnames cs vin its from rfl] at VN
  have NU := hide (fun (v : Value) (wx : World) (hv : IsStrs wx v (vnames cs vin its)) => numbered_any v (vnames cs vin its) wx hv hg.vs)
  have NF := hide (fun (b : Nat) (wx : World) (hx : w.grownBy wx none) (hn : Nums wx b (vnames cs vin its)) => namesfound_any g cs (vin.map (·.1)) (vout.map (·.1)) (its.map (·.1)) b (vnames cs vin its) wx (hg.base.nodes.more hx) (hg.base.ins.more hx) (hg.base.outs.more hx) (hg.base.inits.more hx) ⟨by rw [List.length_map]; exact f1, by rw [List.length_map]; exact f2, by rw [List.length_map]; exact f3, by rw [List.length_map]; exact f4⟩ (fun c hc => ⟨(hg.base.node c hc).ins.more hx, (hg.is c hc).2⟩) (by exact hg.os) hn)
  rw [show (vout.map (·.1)).map (·.name) = onames vout from rfl] at NF
  have LI := hide (fun (b : Nat) (wx : World) (hx : w.grownBy wx none) (h1 : cs.length ≤ 1024) (hfo : foundF cs (onames vout) (vnames cs vin its) = true) (hn : Nums wx b (vnames cs vin its)) => linksof_any g cs (vin.map (·.1)) (its.map (·.1)) b (vnames cs vin its) wx (hg.base.nodes.more hx) (hg.base.ins.more hx) (hg.base.inits.more hx) ⟨h1, by rw [List.length_map]; exact f2, by rw [List.length_map]; exact f4⟩ (fun c hc => ⟨(hg.base.node c hc).ins.more hx, (hg.is c hc).1, fun x hxx => ⟨(hg.is c hc).2 x hxx, by
    unfold foundF at hfo
    simp only [Bool.and_eq_true, List.all_eq_true] at hfo
    have := hfo.2 c hc
    unfold allF at this
    rw [List.all_eq_true] at this
    exact this x hxx⟩⟩) (by rw [List.length_map, List.length_map]; exact vnames_len cs vin its) hn)
  simp only [List.length_map] at LI
  have LBD := hide (fun (hfo : foundF cs (onames vout) (vnames cs vin its) = true) => linksN_lb cs (vnames cs vin its) (vin.length + its.length) (vnames_len cs vin its) (fun c hc => ⟨(hg.is c hc).1, fun x hxx => by
    unfold foundF at hfo
    simp only [Bool.and_eq_true, List.all_eq_true] at hfo
    have := hfo.2 c hc
    unfold allF at this
    rw [List.all_eq_true] at this
    exact this x hxx⟩) cs.length (Nat.le_refl _))
  have HR : Hid (orderR cs vin vout its = if manyF cs.length vin.length vout.length its.length = true then ([], 6) else if partsF cs vin its ≠ 0 then ([], partsF cs vin its) else if (namesOK [] (vnames cs vin its) && foundF cs (onames vout) (vnames cs vin its)) = false then ([], 4) else if (lineF cs vin its).length < cs.length then ([], 4) else (lineF cs vin its, 0)) := rfl
  have HLF : Hid (lineF cs vin its = ordF cs.length (linksN cs (vnames cs vin its) (vin.length + its.length) cs.length).1 (linksN cs (vnames cs vin its) (vin.length + its.length) cs.length).2) := rfl
  have NIL : Hid (∀ wx : World, Owns wx w.heap.size (.slice none 0 0) []) := fun wx => ⟨World.ownsRow_nil _ _ _ _, by simp, by simp⟩
  have HM : Hid (manyF cs.length vin.length vout.length its.length = false → cs.length ≤ 1024) := fun h => by
    unfold manyF at h
    simp only [Bool.or_eq_false_iff, decide_eq_false_iff_not] at h
    omega
  obtain ⟨V, hV⟩ : ∃ V, V = vnames cs vin its := ⟨_, rfl⟩
  obtain ⟨O, hO⟩ : ∃ O, O = onames vout := ⟨_, rfl⟩
  obtain ⟨LF, hLF⟩ : ∃ LF, LF = lineF cs vin its := ⟨_, rfl⟩
  obtain ⟨PF, hPF⟩ : ∃ PF, PF = partsF cs vin its := ⟨_, rfl⟩
  obtain ⟨OR, hOR⟩ : ∃ OR, OR = orderR cs vin vout its := ⟨_, rfl⟩
  rw [← hV] at VN NU NF LI LBD HR HLF LV
  rw [← hO] at NF LI LBD HR
  rw [← hLF] at HR HLF
  rw [← hPF] at HR CP
  rw [← hOR] at HR ⊢
  obtain ⟨MF, hMF⟩ : ∃ MF, MF = manyF cs.length vin.length vout.length its.length := ⟨_, rfl⟩
  rw [← hMF] at TM HR HM
  have HE1 := hide e1
  clear hV hO hLF hPF hOR hMF hl hg e1 e2 e3 e4
  obtain ⟨nam, ⟨na0, nn0, nc0⟩, ⟨ia, iN, ic⟩, ⟨oa, oN, oc⟩, ⟨ta, tN, tc⟩⟩ := g
  unfold gval at TM CP VN NF LI ⊢
  simp only at TM CP VN NF LI ⊢
  have HE1 : Hid (nn0 = cs.length) := HE1.out
  rw [HE1.out] at TM CP VN NF LI ⊢
  obtain ⟨w0, hw0⟩ : ∃ w0, w0 = w.alloc (.cells #[.string nam, .slice na0 cs.length nc0, .slice ia iN ic, .slice oa oN oc, .slice ta tN tc] 42) := ⟨_, rfl⟩
  have g0 : w.grownBy w0 none := by rw [hw0]; exact grown_new _ _
  have b0 := heap_alloc_new w (.cells #[.string nam, .slice na0 cs.length nc0, .slice ia iN ic, .slice oa oN oc, .slice ta tN tc] 42)
  rw [← hw0] at b0
  have BX : Hid (∀ wx, w0.grownBy wx none → wx.heap[w.heap.size]? = some (.cells #[.string nam, .slice na0 cs.length nc0, .slice ia iN ic, .slice oa oN oc, .slice ta tN tc] 42 (0, 0))) := fun wx hx => box_kept b0 hx
  clear b0
  obtain ⟨r0, r1, r2, r3, r4⟩ := gra_cells (g := ⟨nam, ⟨na0, cs.length, nc0⟩, ⟨ia, iN, ic⟩, ⟨oa, oN, oc⟩, ⟨ta, tN, tc⟩⟩) (BX.out w0 (grown_refl _))
  rw [hw0] at r0 r1 r2 r3 r4
  go_enter Tryz.func78, Tryz.ntmps78
  go_wp2_with fail
  rw [← hw0]
  clear hw0 r0 r1 r2 r3 r4
  refine (TM.out w0).mono ?_
  rintro e w1 ⟨rfl, hg1⟩
  cases MF with
  | true =>
    have E : Hid (OR = ([], 6)) := by show _ = _; rw [HR.out, if_pos rfl]
    go_wp2
    go_ret2
    exact ⟨nilS, by rw [E.out]; rfl, by rw [E.out]; exact NIL.out _, grown_trans g0 hg1⟩
  | false =>
    have h1024 : Hid (cs.length ≤ 1024) := HM.out rfl
    have HR1 : Hid (OR = if PF ≠ 0 then ([], PF) else if (namesOK [] V && foundF cs O V) = false then ([], 4) else if LF.length < cs.length then ([], 4) else (LF, 0)) := by show _ = _; rw [HR.out, if_neg (by decide)]
    clear HR HM
    obtain ⟨r0, r1, r2, r3, r4⟩ := gra_cells (g := ⟨nam, ⟨na0, cs.length, nc0⟩, ⟨ia, iN, ic⟩, ⟨oa, oN, oc⟩, ⟨ta, tN, tc⟩⟩) (BX.out w1 hg1)
    go_wp2_with fail
    clear r0 r1 r2 r3 r4
    refine (CP.out w1 (grown_trans g0 hg1)).mono ?_
    rintro e w2 ⟨rfl, hg2⟩
    have g02 := grown_trans hg1 hg2
    by_cases hz : PF = 0
    · have HR2 : Hid (OR = if (namesOK [] V && foundF cs O V) = false then ([], 4) else if LF.length < cs.length then ([], 4) else (LF, 0)) := by show _ = _; rw [HR1.out, if_neg (by simpa using hz)]
      clear HR1
      rw [hz]
      clear hz
      obtain ⟨r0, r1, r2, r3, r4⟩ := gra_cells (g := ⟨nam, ⟨na0, cs.length, nc0⟩, ⟨ia, iN, ic⟩, ⟨oa, oN, oc⟩, ⟨ta, tN, tc⟩⟩) (BX.out w2 g02)
      go_wp2_with fail
      clear r0 r1 r2 r3 r4
      refine (VN.out w2 (grown_trans g0 g02)).mono ?_
      rintro e w3 ⟨⟨ua, un, uc⟩, rfl, hown, hg3⟩
      have g03 := grown_trans g02 hg3
      have IS := hide (hown.isL (bytes := 16) scell_len (by have := LV.out; omega))
      clear hown
      unfold Sl.v at IS ⊢
      simp only at IS ⊢
      go_wp2_with fail
      refine (NU.out _ w3 IS.out).mono ?_
      rintro e w4 ⟨hg4, hh⟩
      have g04 := grown_trans g03 hg4
      obtain ⟨r0, r1, r2, r3, r4⟩ := gra_cells (g := ⟨nam, ⟨na0, cs.length, nc0⟩, ⟨ia, iN, ic⟩, ⟨oa, oN, oc⟩, ⟨ta, tN, tc⟩⟩) (BX.out w4 g04)
      rcases hh with ⟨hok, b, hb, rfl, hnum⟩ | ⟨hno, rfl⟩
      · have HOK := hide hok
        have HNU := hide hnum
        clear hok hnum hb
        go_wp2_with fail
        clear r0 r1 r2 r3 r4
        refine (NF.out b w4 (grown_trans g0 g04) HNU.out).mono ?_
        rintro e w5 ⟨rfl, hg5⟩
        have g05 := grown_trans g04 hg5
        obtain ⟨r0, r1, r2, r3, r4⟩ := gra_cells (g := ⟨nam, ⟨na0, cs.length, nc0⟩, ⟨ia, iN, ic⟩, ⟨oa, oN, oc⟩, ⟨ta, tN, tc⟩⟩) (BX.out w5 g05)
        cases hfo : foundF cs O V with
        | false =>
          have E : Hid (OR = ([], 4)) := by show _ = _; rw [HR2.out, if_pos (by rw [hfo]; simp)]
          clear hfo
          go_wp2
          go_ret2
          exact ⟨nilS, by rw [E.out]; rfl, by rw [E.out]; exact NIL.out _, grown_trans g0 g05⟩
        | true =>
          have HFO := hide hfo
          have HR3 : Hid (OR = if LF.length < cs.length then ([], 4) else (LF, 0)) := by show _ = _; rw [HR2.out, if_neg (by rw [hfo, HOK.out]; decide)]
          clear hfo HR2
          go_wp2_with fail
          clear r0 r1 r2 r3 r4
          refine (LI.out b w5 (grown_trans g0 g05) h1024.out HFO.out (HNU.out.more hg5)).mono ?_
          rintro e w6 ⟨Bw, Br, rs, rfl, hlk, hg6⟩
          have g06 := grown_trans g05 hg6
          have hlb := LBD.out HFO.out
          have hbase := (World.ownsRow.lt hlk.own Bw rfl).1
          have HIOx := hide (inorder_any Bw w5.heap.size ⟨some ⟨Br, 0, none⟩, cs.length, cs.length⟩ _ _ w6 hlk.own (hlk.rds hlb.l2) (hlb.l2.trans hlb.l1.symm) (fun r hr => ⟨by have := (hlb.b2 r hr).1; have := h1024.out; omega, fun z hz => by rw [hlb.l1]; exact (hlb.b2 r hr).2 z hz⟩) (fun z hz => by have := hlb.b1 z hz; have := h1024.out; omega) (by rw [hlb.l1]; have := h1024.out; omega))
          rw [hlb.l1, ← HLF.out] at HIOx
          clear hlb hlk
          go_wp2_with fail
          refine HIOx.out.mono ?_
          rintro e w7 ⟨⟨oa7, on7, oc7⟩, rfl, ho7, hg7⟩
          obtain ⟨oa', oc', ho⟩ := own_form ho7.1
          obtain ⟨rfl, rfl, rfl⟩ : oa7 = oa' ∧ on7 = LF.length ∧ oc7 = oc' := by simpa [Sl.v] using ho
          have HO7 := hide ho7
          have g07 : w0.grownBy w7 none := grown_trans_row g06 hg7 (fun g e => by injection e with e; have := g05.size; omega)
          have hsz : w.heap.size ≤ w6.heap.size := by have := g0.size; have := g06.size; omega
          clear ho ho7
          unfold Sl.v
          simp only
          obtain ⟨r0, r1, r2, r3, r4⟩ := gra_cells (g := ⟨nam, ⟨na0, cs.length, nc0⟩, ⟨ia, iN, ic⟩, ⟨oa, oN, oc⟩, ⟨ta, tN, tc⟩⟩) (BX.out w7 g07)
          by_cases hlen : LF.length < cs.length
          · have E : Hid (OR = ([], 4)) := by show _ = _; rw [HR3.out, if_pos hlen]
            have hlen' : (LF.length : Int) < (cs.length : Int) := by omega
            clear hlen
            go_wp2
            go_ret2
            exact ⟨nilS, by rw [E.out]; rfl, by rw [E.out]; exact NIL.out _, grown_trans g0 g07⟩
          · have E : Hid (OR = (LF, 0)) := by show _ = _; rw [HR3.out, if_neg hlen]
            have hlen' : ¬ (LF.length : Int) < (cs.length : Int) := by omega
            clear hlen
            go_wp2
            go_ret2
            exact ⟨⟨oa7, LF.length, oc7⟩, by rw [E.out]; rfl, by rw [E.out]; exact HO7.out.base_le hsz, grown_trans g0 g07⟩
      · have E : Hid (OR = ([], 4)) := by show _ = _; rw [HR2.out, if_pos (by rw [hno]; rfl)]
        clear hno
        go_wp2
        go_ret2
        exact ⟨nilS, by rw [E.out]; rfl, by rw [E.out]; exact NIL.out _, grown_trans g0 g04⟩
    · have E : Hid (OR = ([], PF)) := by show _ = _; rw [HR1.out, if_pos hz]
      have hzb : (PF != 0) = true := by simpa using hz
      go_wp2
      go_ret2
      exact ⟨nilS, by rw [E.out]; rfl, by rw [E.out]; exact NIL.out _, grown_trans g0 g02⟩
end Go.Proofs.YtdcbjikjeicgbaaGreatDoor

/- Check, and who reads a value, by the walk. -/
namespace Go.Proofs.YtdcbjikjeicgbaaGreatDoor
open Go.RowKit

/-- The places, among the first k nodes, of those that read a name. -/
def readsN (cs : List Nc) (x : ByteArray) : Nat → List Int
  | 0 => []
  | k + 1 => readsN cs x k ++ (if ((cs[k]?.map (·.ins)).getD []).any (isS x) = true then [(k : Int)] else [])

theorem readsN_le (cs : List Nc) (x : ByteArray) : ∀ k, (readsN cs x k).length ≤ k ∧ ∀ z ∈ readsN cs x k, 0 ≤ z ∧ z < k
  | 0 => ⟨Nat.le_refl _, fun z hz => by cases hz⟩
  | k + 1 => by
    have ih := readsN_le cs x k
    unfold readsN
    split
    · refine ⟨by rw [List.length_append]; simp; exact ih.1, fun z hz => ?_⟩
      rcases List.mem_append.1 hz with h | h
      · have := ih.2 z h; omega
      · simp at h; omega
    · rw [List.append_nil]
      exact ⟨by have := ih.1; omega, fun z hz => by have := ih.2 z hz; omega⟩

end Go.Proofs.YtdcbjikjeicgbaaGreatDoor

/- What an order out of waits and readers is: each once, behind all whose values it reads. -/
namespace Go.Proofs.YtdcbjikjeicgbaaGreatDoor
open Go.RowKit

/-- How often a node is told by those, of the first m, that are not taken. -/
def owed (R : List (List Int)) (acc : List Int) (i : Int) : Nat → Nat
  | 0 => 0
  | m + 1 => owed R acc i m + (if (m : Int) ∈ acc then 0 else (R.getD m []).count i)

theorem owed_far {R : List (List Int)} {acc : List Int} {i : Int} {k : Nat} : ∀ {m : Nat}, m ≤ k → owed R (acc ++ [(k : Int)]) i m = owed R acc i m
  | 0, _ => rfl
  | m + 1, h => by
    unfold owed
    rw [owed_far (m := m) (by omega)]
    have : ((m : Int) ∈ acc ++ [(k : Int)]) ↔ (m : Int) ∈ acc := by
      rw [List.mem_append]
      constructor
      · rintro (h1 | h1)
        · exact h1
        · simp at h1; omega
      · exact Or.inl
    simp only [this]

theorem owed_take {R : List (List Int)} {acc : List Int} {i : Int} {k : Nat} (hk : (k : Int) ∉ acc) : ∀ {m : Nat}, k < m → owed R acc i m = owed R (acc ++ [(k : Int)]) i m + (R.getD k []).count i
  | 0, h => by omega
  | m + 1, h => by
    unfold owed
    by_cases e : k = m
    · subst e
      rw [owed_far (Nat.le_refl _), if_neg hk, if_pos (by simp)]
      omega
    · rw [owed_take hk (m := m) (by omega)]
      have : ((m : Int) ∈ acc ++ [(k : Int)]) ↔ (m : Int) ∈ acc := by
        rw [List.mem_append]
        constructor
        · rintro (h1 | h1)
          · exact h1
          · simp at h1; omega
        · exact Or.inl
      simp only [this]
      omega

theorem owed_zero {R : List (List Int)} {acc : List Int} {i : Int} : ∀ {m : Nat}, owed R acc i m = 0 → ∀ j : Nat, j < m → (j : Int) ∉ acc → i ∉ R.getD j []
  | 0, _, j, h, _ => by omega
  | m + 1, h0, j, h, hj => by
    unfold owed at h0
    by_cases e : j = m
    · subst e
      rw [if_neg hj] at h0
      exact List.count_eq_zero.1 (by omega)
    · exact owed_zero (m := m) (by omega) j (by omega) hj

theorem getD_set_int (W : List Int) (r i : Nat) (x : Int) (hr : r < W.length) : (W.set r x).getD i 0 = if r = i then x else W.getD i 0 := by
  by_cases e : r = i
  · subst e
    rw [if_pos rfl, List.getD, List.getElem?_set_self hr]
    rfl
  · rw [if_neg e, List.getD, List.getElem?_set_ne e]
    rfl

theorem dec_count {i : Nat} : ∀ {rs W : List Int}, (∀ r ∈ rs, 0 ≤ r ∧ r < W.length) → (decAll W rs).getD i 0 = W.getD i 0 - (rs.count (i : Int) : Nat)
  | [], W, _ => by simp [decAll]
  | r :: rs, W, h => by
    have hr := h r (by simp)
    have e : decAll W (r :: rs) = decAll (W.set r.toNat (W.getD r.toNat 0 - 1)) rs := rfl
    rw [e, dec_count (fun y hy => by rw [List.length_set]; exact h y (by simp [hy])), getD_set_int _ _ _ _ (by omega), List.count_cons]
    by_cases hi : r.toNat = i
    · rw [if_pos hi]
      have h2 : (r == (i : Int)) = true := by simp; omega
      rw [if_pos h2, hi]
      omega
    · rw [if_neg hi]
      have h2 : ¬ (r == (i : Int)) = true := by simp; omega
      rw [if_neg h2]
      omega

/-- Where an order stands. -/
structure Cons (n : Nat) (R : List (List Int)) (acc W : List Int) : Prop where
  len : W.length = n
  once : acc.Nodup
  inr : ∀ z ∈ acc, 0 ≤ z ∧ z < n
  free : ∀ i : Nat, i < n → (i : Int) ∉ acc → W.getD i 0 = owed R acc (i : Int) n
  gone : ∀ i : Nat, i < n → (i : Int) ∈ acc → W.getD i 0 < 0
  behind : ∀ (p : Nat) (z : Int), acc[p]? = some z → ∀ j : Nat, j < n → z ∈ R.getD j [] → (j : Int) ∈ acc.take p

theorem Cons.step {n : Nat} {R : List (List Int)} {acc W : List Int} (h : Cons n R acc W) (hR : ∀ k, k < n → ∀ z ∈ R.getD k [], 0 ≤ z ∧ z < n) {k : Nat} (hk : k < n) (h0 : W.getD k 0 = 0) : Cons n R (acc ++ [(k : Int)]) (decAll (W.set k (-1)) (R.getD k [])) := by
  have hl : ∀ r ∈ R.getD k [], 0 ≤ r ∧ r < (W.set k (-1)).length := fun r hr => by rw [List.length_set, h.len]; exact hR k hk r hr
  have hka : (k : Int) ∉ acc := fun e => by have := h.gone k hk e; omega
  have hz : owed R acc (k : Int) n = 0 := by have := h.free k hk hka; omega
  refine ⟨by rw [decAll_len, List.length_set]; exact h.len, ?_, fun z hz => ?_, fun i hi hia => ?_, fun i hi hia => ?_, fun p z hp j hj hzj => ?_⟩
  · rw [List.nodup_append]
    refine ⟨h.once, by simp, fun a ha b hb => ?_⟩
    simp at hb
    subst hb
    exact fun e => hka (e ▸ ha)
  · rcases List.mem_append.1 hz with h1 | h1
    · exact h.inr z h1
    · simp at h1; omega
  · have hne : i ≠ k := fun e => hia (by simp [e])
    have hna : (i : Int) ∉ acc := fun e => hia (List.mem_append.2 (Or.inl e))
    rw [dec_count hl, getD_set_int _ _ _ _ (by rw [h.len]; exact hk), if_neg (fun e => hne e.symm), h.free i hi hna, owed_take hka hk]
    omega
  · rw [dec_count hl, getD_set_int _ _ _ _ (by rw [h.len]; exact hk)]
    by_cases e : k = i
    · rw [if_pos e]
      omega
    · rw [if_neg e]
      rcases List.mem_append.1 hia with h1 | h1
      · have := h.gone i hi h1
        omega
      · simp at h1
        omega
  · by_cases hp2 : p < acc.length
    · rw [List.getElem?_append_left hp2] at hp
      rw [List.take_append_of_le_length (by omega)]
      exact h.behind p z hp j hj hzj
    · have hp3 : p = acc.length := by
        have := (List.getElem?_eq_some_iff.1 hp).1
        rw [List.length_append] at this
        simp at this
        omega
      subst hp3
      rw [List.getElem?_append_right (Nat.le_refl _), Nat.sub_self] at hp
      have hzk : (k : Int) = z := by simpa using hp
      subst hzk
      rw [List.take_append_of_le_length (Nat.le_refl _), List.take_of_length_le (Nat.le_refl _)]
      refine Classical.byContradiction fun hja => ?_
      exact owed_zero hz j hj hja hzj

theorem ordF_cons {n : Nat} {R : List (List Int)} (hR : ∀ k, k < n → ∀ z ∈ R.getD k [], 0 ≤ z ∧ z < n) : ∀ (f : Nat) {acc W : List Int}, Cons n R acc W → ∃ W', Cons n R (acc ++ ordF f W R) W'
  | 0, acc, W, h => ⟨W, by rw [ordF, List.append_nil]; exact h⟩
  | f + 1, acc, W, h => by
    unfold ordF
    cases hf : W.findIdx? (fun z => z == 0) with
    | none => exact ⟨W, by simpa using h⟩
    | some k =>
      obtain ⟨hk, hz, -⟩ := List.findIdx?_eq_some_iff_getElem.1 hf
      have h0 : W.getD k 0 = 0 := by rw [List.getD, List.getElem?_eq_getElem hk]; simpa using hz
      have st := h.step hR (by rw [← h.len]; exact hk) h0
      obtain ⟨W', hW'⟩ := ordF_cons hR f st
      refine ⟨W', ?_⟩
      rw [List.append_assoc] at hW'
      exact hW'
end Go.Proofs.YtdcbjikjeicgbaaGreatDoor

/- Waits and readers tell one another; the order of a graph's nodes. -/
namespace Go.Proofs.YtdcbjikjeicgbaaGreatDoor
open Go.RowKit

theorem getD_set_list (R : List (List Int)) (m i : Nat) (x : List Int) (hm : m < R.length) : (R.set m x).getD i [] = if m = i then x else R.getD i [] := by
  by_cases e : m = i
  · subst e
    rw [if_pos rfl, List.getD, List.getElem?_set_self hm]
    rfl
  · rw [if_neg e, List.getD, List.getElem?_set_ne e]
    rfl

theorem owed_more {R : List (List Int)} {i : Int} {k : Int} {m : Nat} (hm : m < R.length) : ∀ {t : Nat}, owed (R.set m (R.getD m [] ++ [k])) [] i t = owed R [] i t + (if m < t ∧ k = i then 1 else 0)
  | 0 => by simp [owed]
  | t + 1 => by
    unfold owed
    rw [owed_more hm (t := t), getD_set_list _ _ _ _ hm]
    by_cases e : m = t
    · subst e
      rw [if_pos rfl, List.count_append]
      by_cases hk : k = i
      · simp [hk]
        omega
      · have : ¬ (k == i) = true := by simpa using hk
        simp [hk]
    · rw [if_neg e]
      by_cases hk : k = i
      · by_cases hmt : m < t
        · simp [hk, hmt, show m < t + 1 by omega]
          omega
        · simp [hk, hmt, show ¬ m < t + 1 by omega]
      · simp [hk]

/-- Waits are told by readers. -/
def Even (n : Nat) (p : List Int × List (List Int)) : Prop := p.1.length = n ∧ p.2.length = n ∧ ∀ i : Nat, i < n → p.1.getD i 0 = owed p.2 [] (i : Int) n

theorem Even.lnk {n : Nat} {p : List Int × List (List Int)} (h : Even n p) {l : List ByteArray} {k0 i : Nat} {x : ByteArray} (hi : i < n) (hx : pos l x < k0 + n) : Even n (lnk l k0 i p x) := by
  obtain ⟨h1, h2, h3⟩ := h
  unfold Go.Proofs.YtdcbjikjeicgbaaGreatDoor.lnk
  split
  · rename_i hk
    have hm : pos l x - k0 < p.2.length := by omega
    refine ⟨by simp [h1], by simp [h2], fun j hj => ?_⟩
    show (p.1.set i (p.1.getD i 0 + 1)).getD j 0 = owed (p.2.set (pos l x - k0) (p.2.getD (pos l x - k0) [] ++ [(i : Int)])) [] (j : Int) n
    rw [owed_more hm, getD_set_int _ _ _ _ (by omega)]
    by_cases e : i = j
    · subst e
      rw [if_pos rfl, if_pos ⟨by omega, rfl⟩, h3 i hi]
      omega
    · rw [if_neg e, if_neg (fun hh => e (by omega)), h3 j hj]
      omega
  · exact ⟨h1, h2, h3⟩

theorem Even.row {n : Nat} {l : List ByteArray} {k0 i : Nat} (hi : i < n) : ∀ {xs : List ByteArray} {p : List Int × List (List Int)}, (∀ x ∈ xs, pos l x < k0 + n) → Even n p → Even n (lnkRow l k0 i p xs)
  | [], p, _, h => h
  | x :: xs, p, hx, h => Even.row hi (xs := xs) (fun y hy => hx y (by simp [hy])) (h.lnk hi (hx x (by simp)))

theorem Even.links {cs : List Nc} {l : List ByteArray} {k0 : Nat} (hin : ∀ c ∈ cs, ∀ x ∈ c.ins, pos l x < k0 + cs.length) : ∀ k, k ≤ cs.length → Even cs.length (linksN cs l k0 k)
  | 0, _ => by
    refine ⟨by simp [linksN], by simp [linksN], fun i hi => ?_⟩
    have : ∀ t, owed (List.replicate cs.length []) [] (i : Int) t = 0 := by
      intro t
      induction t with
      | zero => rfl
      | succ t ih =>
        unfold owed
        rw [ih, show (List.replicate cs.length ([] : List Int)).getD t [] = [] by rw [List.getD, List.getElem?_replicate]; split <;> rfl]
        simp
    show (List.replicate cs.length (0 : Int)).getD i 0 = owed (List.replicate cs.length []) [] (i : Int) cs.length
    rw [this]
    rw [List.getD, List.getElem?_replicate]
    split <;> rfl
  | k + 1, hk => by
    have e : linksN cs l k0 (k + 1) = lnkRow l k0 k (linksN cs l k0 k) cs[k].ins := by
      rw [linksN, List.getElem?_eq_getElem (by omega)]
      rfl
    rw [e]
    exact Even.row (by omega) (hin cs[k] (List.getElem_mem (by omega))) (Even.links hin k (by omega))

/-- What is told once stays told. -/
theorem lnk_keeps {l : List ByteArray} {k0 i : Nat} {p : List Int × List (List Int)} {x : ByteArray} {j : Nat} {z : Int} (h : z ∈ p.2.getD j []) : z ∈ (lnk l k0 i p x).2.getD j [] := by
  unfold lnk
  split
  · by_cases hm : pos l x - k0 < p.2.length
    · show z ∈ (p.2.set _ _).getD j []
      rw [getD_set_list _ _ _ _ hm]
      split
      · rename_i e
        rw [e]
        exact List.mem_append.2 (Or.inl h)
      · exact h
    · show z ∈ (p.2.set _ _).getD j []
      rw [List.set_eq_of_length_le (by omega)]
      exact h
  · exact h

theorem row_keeps {l : List ByteArray} {k0 i : Nat} {j : Nat} {z : Int} : ∀ {xs : List ByteArray} {p : List Int × List (List Int)}, z ∈ p.2.getD j [] → z ∈ (lnkRow l k0 i p xs).2.getD j []
  | [], _, h => h
  | _ :: xs, _, h => row_keeps (xs := xs) (lnk_keeps h)

theorem row_tells {n : Nat} {l : List ByteArray} {k0 i j : Nat} (hj : j < n) (hi : i < n) : ∀ {xs : List ByteArray} {p : List Int × List (List Int)}, Even n p → (∀ x ∈ xs, pos l x < k0 + n) → (∃ x ∈ xs, pos l x = k0 + j) → (i : Int) ∈ (lnkRow l k0 i p xs).2.getD j []
  | [], _, _, _, h => by obtain ⟨x, hx, -⟩ := h; cases hx
  | y :: xs, p, he, hl, ⟨x, hx, hp⟩ => by
    rcases List.mem_cons.1 hx with rfl | hx
    · refine row_keeps (xs := xs) ?_
      unfold lnk
      rw [if_pos (by omega)]
      show (i : Int) ∈ (p.2.set _ _).getD j []
      rw [getD_set_list _ _ _ _ (by have := he.2.1; omega), if_pos (by omega)]
      simp
    · exact row_tells hj hi (xs := xs) (he.lnk hi (hl y (by simp))) (fun z hz => hl z (by simp [hz])) ⟨x, hx, hp⟩

theorem links_tell {cs : List Nc} {l : List ByteArray} {k0 : Nat} (hin : ∀ c ∈ cs, ∀ x ∈ c.ins, pos l x < k0 + cs.length) {i j : Nat} (hi : i < cs.length) (hj : j < cs.length) (h : ∃ x ∈ cs[i].ins, pos l x = k0 + j) : ∀ k, i < k → k ≤ cs.length → (i : Int) ∈ (linksN cs l k0 k).2.getD j []
  | 0, h0, _ => by omega
  | k + 1, h0, hk => by
    have e : linksN cs l k0 (k + 1) = lnkRow l k0 k (linksN cs l k0 k) cs[k].ins := by
      rw [linksN, List.getElem?_eq_getElem (by omega)]
      rfl
    rw [e]
    by_cases hik : i = k
    · subst hik
      exact row_tells hj hi (Even.links hin i (by omega)) (hin _ (List.getElem_mem _)) h
    · exact row_keeps (links_tell hin hi hj h k (by omega) (by omega))

/-- The order of a graph's nodes: each at most once, behind all whose values it reads. -/
theorem line_law {cs : List Nc} {vin : List (Val × List Int)} {its : List (Nam × List Int × List Int)} (hlen : ∀ c ∈ cs, c.ins.length ≤ 1048576) (hin : ∀ c ∈ cs, ∀ x ∈ c.ins, inL x (vnames cs vin its) = true) :
    (lineF cs vin its).Nodup ∧ (∀ z ∈ lineF cs vin its, 0 ≤ z ∧ z < cs.length) ∧ ∀ (p i j : Nat) (hi : i < cs.length), (lineF cs vin its)[p]? = some (i : Int) → j < cs.length → (∃ x ∈ cs[i].ins, pos (vnames cs vin its) x = vin.length + its.length + j) → (j : Int) ∈ (lineF cs vin its).take p := by
  have hp : ∀ c ∈ cs, ∀ x ∈ c.ins, pos (vnames cs vin its) x < vin.length + its.length + cs.length := fun c hc x hx => by have := pos_lt (hin c hc x hx); rwa [vnames_len] at this
  have hlb := linksN_lb cs (vnames cs vin its) (vin.length + its.length) (vnames_len cs vin its) (fun c hc => ⟨hlen c hc, hin c hc⟩) cs.length (Nat.le_refl _)
  have hev := Even.links hp cs.length (Nat.le_refl _)
  have hR : ∀ k, k < cs.length → ∀ z ∈ (linksN cs (vnames cs vin its) (vin.length + its.length) cs.length).2.getD k [], 0 ≤ z ∧ z < cs.length := fun k hk z hz => by
    rw [List.getD, List.getElem?_eq_getElem (by rw [hlb.l2]; exact hk)] at hz
    exact (hlb.b2 _ (List.getElem_mem _)).2 z hz
  have h0 : Cons cs.length (linksN cs (vnames cs vin its) (vin.length + its.length) cs.length).2 [] (linksN cs (vnames cs vin its) (vin.length + its.length) cs.length).1 :=
    ⟨hev.1, List.nodup_nil, (fun z hz => by cases hz), (fun i hi _ => hev.2.2 i hi), (fun i _ h => by cases h), (fun p z hz => by simp at hz)⟩
  obtain ⟨W', hc⟩ := ordF_cons hR cs.length h0
  rw [List.nil_append] at hc
  exact ⟨hc.once, hc.inr, fun p i j hi hpi hj hx => hc.behind p i hpi j hj (links_tell hp hi hj hx cs.length hi (Nat.le_refl _))⟩
end Go.Proofs.YtdcbjikjeicgbaaGreatDoor

/- The graphs of live, by the walk. -/
namespace Go.Proofs.YtdcbjikjeicgbaaGreatDoor
open Go.RowKit

theorem lit_isLG {α : Type} {te : TypeId} {size bytes : Nat} {f : α → List Value} (hf : ∀ a, (f a).length = size) {w : World} {B : Nat} {xs : List α} {cur : Array Value} (hb : w.heap[B]? = some (.cells cur te (0, 0))) (hc : cur.toList = xs.flatMap f) (hs : cur.size = xs.length * size) (hl : xs.length * bytes ≤ 140737488351232) (hm : xs.length ≤ 1048576) :
    IsL bytes size f w (.slice (some ⟨B, 0, none⟩) xs.length xs.length) xs := by
  refine OwnsL.isL (te := te) (base := 0) hf ?_ hl
  refine ⟨by rw [← hc, Array.length_toList, hs], Or.inr ⟨B, xs.length, cur, rfl, Nat.zero_le _, hb, Nat.le_refl _, by simp only [maxLen]; omega, hs, ?_⟩⟩
  rw [hc, List.take_of_length_le (by rw [← hc, Array.length_toList, hs]; exact Nat.le_refl _)]

theorem six (w : World) (a b c d e f : Obj) : ∀ W, W = (((((w.alloc a).alloc b).alloc c).alloc d).alloc e).alloc f →
    W.heap[w.heap.size]? = some a ∧ W.heap[w.heap.size + 1]? = some b ∧ W.heap[w.heap.size + 1 + 1]? = some c ∧ W.heap[w.heap.size + 1 + 1 + 1]? = some d ∧ W.heap[w.heap.size + 1 + 1 + 1 + 1]? = some e ∧ W.heap[w.heap.size + 1 + 1 + 1 + 1 + 1]? = some f ∧ w.grownBy W none := by
  rintro W rfl
  have z : ∀ (x : World) (o : Obj), (x.alloc o).heap.size = x.heap.size + 1 := fun x o => by simp
  have k1 := heap_alloc_new w a
  have k2 := heap_alloc_new (w.alloc a) b
  have k3 := heap_alloc_new ((w.alloc a).alloc b) c
  have k4 := heap_alloc_new (((w.alloc a).alloc b).alloc c) d
  have k5 := heap_alloc_new ((((w.alloc a).alloc b).alloc c).alloc d) e
  have k6 := heap_alloc_new (((((w.alloc a).alloc b).alloc c).alloc d).alloc e) f
  rw [z] at k2
  rw [z, z] at k3
  rw [z, z, z] at k4
  rw [z, z, z, z] at k5
  rw [z, z, z, z, z] at k6
  have up : ∀ {x : World} {i : Nat} {o : Obj} (p : Obj), x.heap[i]? = some o → (x.alloc p).heap[i]? = some o := fun {x i o} p h => ((grown_new x p).block i (Array.getElem?_eq_some_iff.1 h).1 (by simp)).trans h
  exact ⟨up _ (up _ (up _ (up _ (up _ k1)))), up _ (up _ (up _ (up _ k2))), up _ (up _ (up _ k3)), up _ (up _ k4), up _ k5, k6, grown_trans (grown_trans (grown_trans (grown_trans (grown_trans (grown_new _ _) (grown_new _ _)) (grown_new _ _)) (grown_new _ _)) (grown_new _ _)) (grown_new _ _)⟩

theorem graInfo : (Tryz.prog.info? 42).map (·.size) = some 5 := by kernel_rfl

theorem ret_gra {fn : Func} {p : Tmp} (h : fn.results = #[.cell p 42]) (tmps : Array Value) (w : World) (B : Nat) (hp : tmps.getD p undef = .pointer (some ⟨B, 0, none⟩)) {a0 a1 a2 a3 a4 : Value}
    (hb : w.heap[B]? = some (.cells #[a0, a1, a2, a3, a4] 42 (0, 0))) : (results fn tmps).run Tryz.prog w = .ok (.agg #[a0, a1, a2, a3, a4]) w :=
  results_cell_row h tmps w B 42 #[a0, a1, a2, a3, a4] (0, 0) _ hp hb Tryz.underlying42 rfl (by rw [graInfo]; rfl)

/-- The nodes of live's graphs. -/
def twoCs (s1 s2 : Sl) (x : UInt8) : List Nc := [⟨⟨⟨#[82, 101, 108, 117]⟩, ⟨#[]⟩, s1, ⟨#[121]⟩, nilS⟩, [⟨#[122]⟩], [], []⟩, ⟨⟨⟨#[78, 101, 103]⟩, ⟨#[]⟩, s2, ⟨#[122]⟩, nilS⟩, [⟨#[x]⟩], [], []⟩]

def twoIn : List (Val × List Int) := [(⟨⟨#[120]⟩, 1, nilS⟩, [])]
def twoOut : List (Val × List Int) := [(⟨⟨#[121]⟩, 1, nilS⟩, [])]

theorem ints_nil (w : World) : IsInts w (.slice none 0 0) [] := ⟨none, 0, rfl, by simp, by simp, by simp, fun _ => ⟨rfl, rfl⟩, fun h => by simp at h, fun z hz => by simp at hz⟩

theorem two_ok (w : World) (x : UInt8) (W : World) (hW : W = (((((w.alloc (.cells #[.string ⟨#[]⟩, .slice (some ⟨w.heap.size + 1 + 1 + 1 + 1 + 1, 0, none⟩) 2 2, .slice (some ⟨w.heap.size + 1, 0, none⟩) 1 1, .slice (some ⟨w.heap.size + 1 + 1, 0, none⟩) 1 1, .slice none 0 0] 42)).alloc (.cells #[.string ⟨#[120]⟩, .int .i64 1, .slice none 0 0] 31)).alloc (.cells #[.string ⟨#[121]⟩, .int .i64 1, .slice none 0 0] 31)).alloc (.cells #[.string ⟨#[122]⟩] 9)).alloc (.cells #[.string ⟨#[x]⟩] 9)).alloc (.cells #[.string ⟨#[82, 101, 108, 117]⟩, .string ⟨#[]⟩, .slice (some ⟨w.heap.size + 1 + 1 + 1, 0, none⟩) 1 1, .string ⟨#[121]⟩, .slice none 0 0, .string ⟨#[78, 101, 103]⟩, .string ⟨#[]⟩, .slice (some ⟨w.heap.size + 1 + 1 + 1 + 1, 0, none⟩) 1 1, .string ⟨#[122]⟩, .slice none 0 0] 25)) :
    W.heap[w.heap.size]? = some (.cells #[.string ⟨#[]⟩, .slice (some ⟨w.heap.size + 1 + 1 + 1 + 1 + 1, 0, none⟩) 2 2, .slice (some ⟨w.heap.size + 1, 0, none⟩) 1 1, .slice (some ⟨w.heap.size + 1 + 1, 0, none⟩) 1 1, .slice none 0 0] 42 (0, 0)) ∧ w.grownBy W none ∧
    GraphOk W ⟨⟨#[]⟩, ⟨some ⟨w.heap.size + 1 + 1 + 1 + 1 + 1, 0, none⟩, 2, 2⟩, ⟨some ⟨w.heap.size + 1, 0, none⟩, 1, 1⟩, ⟨some ⟨w.heap.size + 1 + 1, 0, none⟩, 1, 1⟩, nilS⟩ (twoCs ⟨some ⟨w.heap.size + 1 + 1 + 1, 0, none⟩, 1, 1⟩ ⟨some ⟨w.heap.size + 1 + 1 + 1 + 1, 0, none⟩, 1, 1⟩ x) twoIn twoOut [] := by
  obtain ⟨h0, h1, h2, h3, h4, h5, hg⟩ := six w _ _ _ _ _ _ W hW
  have nilA : IsAttrs W nilS.v [] := OwnsL.isL (te := 57) (base := 0) acells_len (OwnsL.nil ..) (by simp)
  refine ⟨h0, hg, ⟨?_, ?_, ?_, ?_, fun c hc => ?_, fun p hp => ?_, fun p hp => ?_, (fun p hp => by cases hp), fun p hp => ?_, ?_⟩, fun y hy => ?_, fun y hy => ?_, fun c hc => ?_⟩
  · exact lit_isLG (te := 25) (bytes := 96) (xs := (twoCs ⟨some ⟨w.heap.size + 1 + 1 + 1, 0, none⟩, 1, 1⟩ ⟨some ⟨w.heap.size + 1 + 1 + 1 + 1, 0, none⟩, 1, 1⟩ x).map (·.n)) ncells_len h5 rfl rfl (Nat.le_of_ble_eq_true rfl) (Nat.le_of_ble_eq_true rfl)
  · exact lit_isLG (te := 31) (bytes := 48) (xs := twoIn.map (·.1)) vcells_len h1 rfl rfl (Nat.le_of_ble_eq_true rfl) (Nat.le_of_ble_eq_true rfl)
  · exact lit_isLG (te := 31) (bytes := 48) (xs := twoOut.map (·.1)) vcells_len h2 rfl rfl (Nat.le_of_ble_eq_true rfl) (Nat.le_of_ble_eq_true rfl)
  · exact OwnsL.isL (te := 74) (base := 0) mcells_len (OwnsL.nil ..) (by simp)
  · simp only [twoCs, List.mem_cons, List.not_mem_nil, or_false] at hc
    rcases hc with rfl | rfl
    · exact ⟨lit_isLG (te := 9) (bytes := 16) (xs := [⟨#[122]⟩]) scell_len h3 rfl rfl (Nat.le_of_ble_eq_true rfl) (Nat.le_of_ble_eq_true rfl), nilA, (fun j a h => by simp at h), by simp, (fun a h => by cases h)⟩
    · exact ⟨lit_isLG (te := 9) (bytes := 16) (xs := [⟨#[x]⟩]) scell_len h4 rfl rfl (Nat.le_of_ble_eq_true rfl) (Nat.le_of_ble_eq_true rfl), nilA, (fun j a h => by simp at h), by simp, (fun a h => by cases h)⟩
  · simp only [twoIn, List.mem_cons, List.not_mem_nil, or_false] at hp
    subst hp
    exact ints_nil W
  · simp only [twoOut, List.mem_cons, List.not_mem_nil, or_false] at hp
    subst hp
    exact ints_nil W
  · simp only [twoIn, List.mem_cons, List.not_mem_nil, or_false] at hp
    subst hp
    show (1 : Nat) ≤ 1048576
    omega
  · simp [twoCs, twoIn, twoOut]
  · simp only [vnames, twoIn, twoCs, List.map_cons, List.map_nil, List.nil_append, List.append_nil, List.cons_append, List.mem_cons, List.not_mem_nil, or_false] at hy
    rcases hy with rfl | rfl | rfl <;> (show (1 : Nat) ≤ 1048576; omega)
  · simp only [onames, twoOut, List.map_cons, List.map_nil, List.mem_cons, List.not_mem_nil, or_false] at hy
    subst hy
    show (1 : Nat) ≤ 1048576
    omega
  · simp only [twoCs, List.mem_cons, List.not_mem_nil, or_false] at hc
    rcases hc with rfl | rfl
    · refine ⟨by simp, fun y hy => ?_⟩
      simp at hy
      subst hy
      show (1 : Nat) ≤ 1048576
      omega
    · refine ⟨by simp, fun y hy => ?_⟩
      simp at hy
      subst hy
      show (1 : Nat) ≤ 1048576
      omega

/-- How two ends. -/
def Twos (x : UInt8) (w : World) (e : Ending) (w' : World) : Prop := ∃ (g : Gra) (s1 s2 : Sl), e = .returned (gval g) ∧ GraphOk w' g (twoCs s1 s2 x) twoIn twoOut [] ∧ w.grownBy w' none

end Go.Proofs.YtdcbjikjeicgbaaGreatDoor

/- The document's Count and the comparison of two lists, by the walk. -/
namespace Go.Proofs.YtdcbjikjeicgbaaGreatDoor
open Go.RowKit

theorem refcount_any (v : Value) (zs : List Int) (w : World) (h : IsInts w v zs) :
    Calls Tryz.prog 21 #[v] w fun e w' => e = .returned (.tuple #[.int .i64 (cnt zs), .int .i64 (cntE zs)]) ∧ w = w' := by
  obtain ⟨ao, cap, rfl, h1, h2, h3, h4, h5, h6⟩ := h
  go_enter Tryz.func21, Tryz.ntmps21
  go_wp2
  go_loopw [4] (fun i wr => wr = w ∧ ∃ k : Nat, k ≤ zs.length ∧ i = .int .i64 k ∧ ∀ t, t < k → 1 ≤ zs.getD t 0) (fun i _ => zs.length - (intOf i).toNat)
  case atStart => exact ⟨rfl, 0, Nat.zero_le _, rfl, fun t h => absurd h (by omega)⟩
  case round =>
    obtain ⟨hw, k, hk, rfl, hp⟩ := hrel
    subst hw
    have HP : Hid (∀ t, t < k → 1 ≤ zs.getD t 0) := hp
    clear hp
    by_cases hkl : k < zs.length
    · obtain ⟨b, off, rfl, hc⟩ := h5 (by omega)
      obtain ⟨z, hz⟩ : ∃ z, z = zs.getD k 0 := ⟨_, rfl⟩
      have hcell := hc k hkl
      rw [← hz] at hcell
      have HZ : Hid (z = zs.getD k 0) := hz
      clear hz hc
      by_cases hz1 : z < 1
      · have HE : Hid (cntE zs = 4) := cntE_low (exists_low hkl HZ.out hz1)
        go_wp2
        go_ret2
        exact ⟨ret_err HE.out (by decide), rfl⟩
      · go_wp2
        go_roundw
        case rel =>
          refine ⟨by trivial, k + 1, by omega, by go_num, fun t ht => ?_⟩
          rcases lt_succ_cases ht with h | rfl
          · exact HP.out t h
          · have := HZ.out; omega
        case measure => simp [intOf]; omega
    · have hp : ∀ z ∈ zs, 1 ≤ z := all_of (fun t ht => HP.out t (by omega))
      have hP : Hid (∀ z ∈ zs, 1 ≤ z) := hp
      clear HP hp
      by_cases h7 : 6 < zs.length
      · have HE : Hid (cntE zs = 6) := cntE_many hP.out h7
        go_wp2
        go_ret2
        exact ⟨ret_err HE.out (by decide), rfl⟩
      · go_wp2
        go_loopw [5, 6] (fun n i w' => w' = wr ∧ ∃ k : Nat, k ≤ zs.length ∧ i = .int .i64 k ∧ n = .int .i64 (prod (zs.take k)) ∧ prod (zs.take k) ≤ 65536) (fun _ i _ => zs.length - (intOf i).toNat)
        case atStart => exact ⟨rfl, 0, Nat.zero_le _, rfl, by simp [prod], by simp [prod]⟩
        case round =>
          obtain ⟨hw, j, hj, rfl, hn, hle⟩ := hrel
          subst hw
          have hp1 := prod_pos _ (pos_take hP.out j)
          obtain ⟨p, hpd⟩ : ∃ p, p = prod (zs.take j) := ⟨_, rfl⟩
          rw [← hpd] at hn hle hp1
          subst hn
          have HPD : Hid (p = prod (zs.take j)) := hpd
          clear hpd
          by_cases hjl : j < zs.length
          · obtain ⟨b, off, rfl, hc⟩ := h5 (by omega)
            have hst := prod_take_step zs j hjl
            have hd1 : 1 ≤ zs.getD j 0 := hP.out _ (by rw [List.getD, List.getElem?_eq_getElem (by omega)]; simp)
            have hcell := hc j hjl
            rw [← HPD.out] at hst
            obtain ⟨d, hd⟩ : ∃ d, d = zs.getD j 0 := ⟨_, rfl⟩
            rw [← hd] at hcell hd1 hst
            have HST : Hid (prod (zs.take (j + 1)) = p * d) := hst
            clear hst hd hc
            have hall : Hid (65536 < p * d → cntE zs = 6) := fun ht => cntE_great hP.out (by
                have h2 := prod_take_le hP.out (j + 1)
                rw [HST.out] at h2
                omega)
            have hpd : d ≤ p * d := le_mul_left hp1 (by omega)
            by_cases ht : 65536 < d
            · go_wp2
              go_ret2
              exact ⟨ret_err (hall.out (by omega)) (by decide), rfl⟩
            · have hsm : p * d ≤ 65536 * 65536 := Int.mul_le_mul (by omega) (by omega) (by omega) (by omega)
              by_cases ht2 : 65536 < p * d
              · go_wp2
                go_ret2
                exact ⟨ret_err (hall.out ht2) (by decide), rfl⟩
              · go_wp2
                go_roundw
                case rel => exact ⟨by trivial, j + 1, by omega, by go_num, by rw [HST.out], by rw [HST.out]; omega⟩
                case measure => simp [intOf]; omega
          · have HT : Hid (p = prod zs) := by show p = prod zs; have := HPD.out; rw [List.take_of_length_le (by omega)] at this; exact this
            have HE : Hid (Fine zs) := ⟨hP.out, by omega, by have := HT.out; omega⟩
            have HN : Hid (p = cnt zs) := by show p = cnt zs; rw [HE.out.cnt]; exact HT.out
            go_wp2
            go_ret2
            exact ⟨by rw [HE.out.ok, ← HN.out]; rfl, rfl⟩

theorem list_eq_of {a b : List Int} (hl : a.length = b.length) (h : ∀ t, t < a.length → a.getD t 0 = b.getD t 0) : a = b := by
  apply List.ext_getElem hl
  intro t h1 h2
  have := h t h1
  simpa [List.getD, h1, h2] using this

theorem same_any (v u : Value) (xs ys : List Int) (w : World) (ha : IsInts w v xs) (hb : IsInts w u ys) :
    Calls Tryz.prog 20 #[v, u] w fun e w' => e = .returned (.bool (decide (xs = ys))) ∧ w.grownBy w' none := by
  have ha0 : Hid (IsInts w v xs) := ha
  have hb0 : Hid (IsInts w u ys) := hb
  obtain ⟨ao, acap, rfl, ha1, ha2, ha3, -, -, -⟩ := ha
  obtain ⟨bo, bcap, rfl, hb1, hb2, hb3, -, -, -⟩ := hb
  by_cases hl : xs.length = ys.length
  · have hl' : ((xs.length : Int) == (ys.length : Int)) = true := by simp [hl]
    have HL : Hid (xs.length = ys.length) := hl
    clear hl
    go_enter Tryz.func20, Tryz.ntmps20
    go_wp2
    go_loopw [5] (fun i wr => w.grownBy wr none ∧ ∃ k : Nat, k ≤ xs.length ∧ i = .int .i64 k ∧ ∀ t, t < k → xs.getD t 0 = ys.getD t 0) (fun i _ => xs.length - (intOf i).toNat)
    case atStart => exact ⟨grown_refl _, 0, Nat.zero_le _, rfl, fun t h => absurd h (by omega)⟩
    case round =>
      obtain ⟨hw, k, hk, rfl, hp⟩ := hrel
      have HP : Hid (∀ t, t < k → xs.getD t 0 = ys.getD t 0) := hp
      clear hp
      by_cases hkl : k < xs.length
      · obtain ⟨_, _, he, -, -, -, -, h5, -⟩ := ha0.out.more hw
        obtain ⟨b, off, ho, hc⟩ := h5 (by omega)
        obtain ⟨_, _, he', -, -, -, -, h5', -⟩ := hb0.out.more hw
        have hbl : k < ys.length := by have := HL.out; omega
        obtain ⟨b', off', ho', hc'⟩ := h5' (by omega)
        simp only [Value.slice.injEq, true_and] at he he'
        obtain ⟨rfl, rfl⟩ := he
        obtain ⟨rfl, rfl⟩ := he'
        subst ho ho'
        obtain ⟨z, hz⟩ : ∃ z, z = xs.getD k 0 := ⟨_, rfl⟩
        obtain ⟨y, hy⟩ : ∃ y, y = ys.getD k 0 := ⟨_, rfl⟩
        have hcell := hc k hkl
        have hcell' := hc' k hbl
        rw [← hz] at hcell
        rw [← hy] at hcell'
        have HZ : Hid (z = xs.getD k 0) := hz
        have HY : Hid (y = ys.getD k 0) := hy
        clear hz hc hy hc'
        by_cases hzy : z = y
        · have hzy' : (z == y) = true := by simp [hzy]
          have HE : Hid (z = y) := hzy
          clear hzy h5 h5'
          go_wp2
          go_region
          all_goals go_wp2
          all_goals
            go_roundw
            case rel =>
              refine ⟨grown_drew hw, k + 1, by omega, by go_num, fun t ht => ?_⟩
              rcases lt_succ_cases ht with h | rfl
              · exact HP.out t h
              · have := HZ.out; have := HY.out; have := HE.out; omega
            case measure => simp [intOf]; omega
        · have hzy' : (z == y) = false := by simp [hzy]
          have HE : Hid (xs ≠ ys) := fun h => hzy (by rw [HZ.out, HY.out, h])
          clear hzy h5 h5'
          go_wp2
          go_region
          all_goals go_wp2
          all_goals go_ret
          all_goals exact ⟨by rw [decide_eq_false HE.out]; rfl, grown_drew hw⟩
      · have HE : Hid (xs = ys) := list_eq_of HL.out (fun t ht => HP.out t (by omega))
        go_wp2
        go_ret
        exact ⟨by rw [decide_eq_true HE.out]; rfl, hw⟩
  · have hl' : ((xs.length : Int) == (ys.length : Int)) = false := by simp; omega
    have HE : Hid (xs ≠ ys) := fun h => hl (by rw [h])
    clear hl
    go_enter Tryz.func20, Tryz.ntmps20
    go_wp2
    go_ret
    exact ⟨by rw [decide_eq_false HE.out]; rfl, grown_refl _⟩
end Go.Proofs.YtdcbjikjeicgbaaGreatDoor

/- The statements' own live, by the walk. -/
namespace Go.Proofs.YtdcbjikjeicgbaaGreatDoor
open Go.RowKit

theorem two_order (s1 s2 : Sl) : orderR (twoCs s1 s2 120) twoIn twoOut [] = ([1, 0], 0) := by kernel_rfl

theorem two_order' (s1 s2 : Sl) : (orderR (twoCs s1 s2 121) twoIn twoOut []).2 = 4 := by kernel_rfl

theorem two_reads (s1 s2 : Sl) : readsN (twoCs s1 s2 120) ⟨#[120]⟩ (twoCs s1 s2 120).length = [1] := by kernel_rfl

theorem lit_ints (w : World) (zs : List Int) (hl : zs.length ≤ 1024) (hz : ∀ z ∈ zs, -1024 ≤ z ∧ z ≤ 1024) : IsInts (w.alloc (.cells (zs.map (Value.int .i64)).toArray 3)) (.slice (some ⟨w.heap.size, 0, none⟩) zs.length zs.length) zs := by
  refine Owns.ints (base := 0) ⟨⟨by simp, Or.inr ⟨w.heap.size, zs.length, _, rfl, Nat.zero_le _, heap_alloc_new w _, Nat.le_refl _, by simp only [maxLen]; omega, by simp, ?_⟩⟩, by omega, fun z h => by have := hz z h; omega⟩
  rw [List.take_of_length_le (by simp)]

end Go.Proofs.YtdcbjikjeicgbaaGreatDoor

/- Nodes that come in, opened: lists within the bound. -/
namespace Go.Proofs.YtdcbjikjeicgbaaGreatDoor
open Go.ChangeShapes Go.WideShapes Go.ChangeAt Go.RowKit

theorem bulk_one {H : Type} (d : DataW H) : 1 ≤ Rows.uptoBulk d := by
  cases d with
  | lit l => cases l <;> simp [Rows.uptoBulk]
  | _ => simp [Rows.uptoBulk]

theorem bulk_part {H : Type} {d : DataW H} : ∀ {l : List (DataW H)}, d ∈ l → Rows.uptoBulk d ≤ Rows.uptoBulkAll l
  | x :: r, h => by
    simp only [Rows.uptoBulkAll]
    rcases List.mem_cons.1 h with rfl | h
    · omega
    · have := bulk_part h; omega

theorem bulk_len {H : Type} : ∀ (l : List (DataW H)), l.length ≤ Rows.uptoBulkAll l
  | [] => by simp
  | x :: r => by
    have h1 := bulk_one x
    have h2 := bulk_len r
    simp only [Rows.uptoBulkAll, List.length_cons]
    omega

/-- A list that comes in, its elements opened one by one. -/
theorem list_of {α : Type} [Inhabited α] {H : Type} {enc : TypeId × Value → H} {W : World} {fuel : Nat} {t e : TypeId} {cs : List Value} {x : DataW H × List MemPlace} {bytes size M : Nat} {f : α → List Value} {P : α → Prop}
    (ht : Tryz.prog.underlying t = some (.slice e)) (hc : Tryz.prog.cellsOf e = size) (hs0 : 0 < size) (hf0 : ∀ y, (f y).length = size) (hM : M * bytes ≤ 140737488351232)
    (hel : ∀ {n : Nat} {cs' : List Value} {x' : DataW H × List MemPlace}, DataW.trod enc Tryz.prog W 0 (fun _ => true) true n e cs' = some x' → Rows.uptoBulk x'.1 ≤ M → ∃ y, cs' = f y ∧ P y)
    (hf : DataW.trod enc Tryz.prog W 0 (fun _ => true) true fuel t cs = some x) (hb : Rows.uptoBulk x.1 ≤ M) : ∃ (s : Sl) (xs : List α), cs = [.slice s.a s.n s.c] ∧ IsL bytes size f W s.v xs ∧ (∀ y ∈ xs, P y) ∧ xs.length ≤ M := by
  rcases Go.Deep.open_slice ht hf with ⟨hcs, hx⟩ | ⟨a, len, cap, m, n, D, Pl, hcs, -, hl, hm, hmm, hx, hel'⟩
  · exact ⟨⟨none, 0, 0⟩, [], hcs, IsL.nil .., fun y hy => by simp at hy, by simp⟩
  · simp only [if_true] at hmm
    subst hmm
    rw [hx] at hb
    simp only [Rows.uptoBulk] at hb
    have hln := bulk_len ((List.range len).map D)
    simp only [List.length_map, List.length_range] at hln
    rw [hc] at hel'
    have hy : ∀ i, i < len → ∃ y, W.cells? 0 (a.add (i * size)) size = some (f y) ∧ P y := by
      intro i hi
      obtain ⟨cs', h1, htr⟩ := hel' i (by omega)
      have hp := bulk_part (d := D i) (l := (List.range len).map D) (List.mem_map.2 ⟨i, List.mem_range.2 hi, rfl⟩)
      obtain ⟨y, rfl, hin⟩ := hel htr (by simp only; omega)
      exact ⟨y, h1, hin⟩
    obtain ⟨Y, hY⟩ := Go.Deep.choose_lt hy
    have hlen : ((List.range len).map Y).length = len := by simp
    have hlb : len * bytes ≤ 140737488351232 := Nat.le_trans (Nat.mul_le_mul_right _ (by omega)) hM
    refine ⟨⟨some a, len, m⟩, (List.range len).map Y, hcs, ⟨some a, m, by rw [hlen], by rw [hlen]; exact hl, by simpa [maxLen] using hm, by rw [hlen]; exact hlb, (fun h => by cases h), fun h0 => ?_⟩, fun y hy' => ?_, by rw [hlen]; omega⟩
    · rw [hlen] at h0
      have hcc : ∀ i, i < len → ∀ q, q < size → W.cell? ((a.add (i * size)).add q) = (f (Y i))[q]? := fun i hi => (World.cells?_some (hY i hi).1).2.2
      obtain ⟨b, off, sp⟩ := a
      have hne : ∀ i q, q < size → (f (Y i))[q]? ≠ none := fun i q hq => by rw [List.getElem?_eq_getElem (by rw [hf0]; exact hq)]; simp
      have hsp : sp = none := by
        have h1 := hcc 0 h0 0 hs0
        rw [List.getElem?_eq_getElem (by rw [hf0]; exact hs0)] at h1
        simpa [Addr.add] using World.cell?_spot h1
      subst hsp
      refine ⟨b, off, rfl, fun k hk j hj => ?_⟩
      rw [hlen] at hk
      have h1 := hcc k hk j hj
      rw [Addr.add_lit, Addr.add_lit] at h1
      simp only [List.getElem_map, List.getElem_range]
      exact ⟨h1, hne k j hj⟩
    · obtain ⟨i, hi, rfl⟩ := List.mem_map.1 hy'
      exact (hY i (List.mem_range.1 hi)).2

theorem cellsI64 : Tryz.prog.cellsOf 2 = 1 := by kernel_rfl

theorem cellsStr : Tryz.prog.cellsOf 9 = 1 := by kernel_rfl

theorem cellsAttr : Tryz.prog.cellsOf 57 = 9 := by kernel_rfl

theorem cellsTen : Tryz.prog.cellsOf 55 = 3 := by kernel_rfl

theorem cellsNode : Tryz.prog.cellsOf 25 = 5 := by kernel_rfl

theorem cellsSI : Tryz.prog.cellsOf 29 = 1 := by kernel_rfl

theorem cellsSL : Tryz.prog.cellsOf 53 = 1 := by kernel_rfl

theorem cellsSS : Tryz.prog.cellsOf 22 = 1 := by kernel_rfl

theorem cellsSA : Tryz.prog.cellsOf 23 = 1 := by kernel_rfl

section
variable {H : Type} {enc : TypeId × Value → H} {W : World}

theorem int_in {n : Nat} {cs : List Value} {x : DataW H × List MemPlace} (hf : DataW.trod enc Tryz.prog W 0 (fun _ => true) true n 3 cs = some x) : ∃ z : Int, cs = icell z ∧ (-9223372036854775808 ≤ z ∧ z ≤ 9223372036854775807) := by
  obtain ⟨a, e, -, w⟩ := DataW.trod_int Tryz.underlying3 hf
  exact ⟨a, e, wf_bounds w⟩

theorem i64_in {n : Nat} {cs : List Value} {x : DataW H × List MemPlace} (hf : DataW.trod enc Tryz.prog W 0 (fun _ => true) true n 2 cs = some x) : ∃ z : Int, cs = icell z ∧ (-9223372036854775808 ≤ z ∧ z ≤ 9223372036854775807) := by
  obtain ⟨a, e, -, w⟩ := DataW.trod_int Tryz.underlying2 hf
  exact ⟨a, e, wf_bounds w⟩

theorem str_in {n M : Nat} {cs : List Value} {x : DataW H × List MemPlace} (hf : DataW.trod enc Tryz.prog W 0 (fun _ => true) true n 9 cs = some x) (hb : Rows.uptoBulk x.1 ≤ M) : ∃ s : ByteArray, cs = scell s ∧ s.size ≤ M := by
  obtain ⟨s, e, e', -⟩ := DataW.trod_string Tryz.underlying9 hf
  rw [e'] at hb
  simp only [Rows.uptoBulk] at hb
  have e2 : s.data.toList.length = s.size := Array.length_toList
  exact ⟨s, e, by omega⟩

set_option maxRecDepth 100000 in
theorem ints_in {n : Nat} {cs : List Value} {x : DataW H × List MemPlace} (hf : DataW.trod enc Tryz.prog W 0 (fun _ => true) true n 29 cs = some x) (hb : Rows.uptoBulk x.1 ≤ 1048576) : ∃ (s : Sl) (zs : List Int), cs = [.slice s.a s.n s.c] ∧ IsInts W s.v zs := by
  obtain ⟨s, zs, e, h1, h2, -⟩ := list_of (bytes := 8) (size := 1) (f := icell) (P := fun z => -9223372036854775808 ≤ z ∧ z ≤ 9223372036854775807) Tryz.underlying29 cellsInt (by decide) icell_len (by decide) (fun h _ => int_in h) hf hb
  exact ⟨s, zs, e, ints_isL h1 h2⟩

set_option maxRecDepth 100000 in
theorem i64s_in {n : Nat} {cs : List Value} {x : DataW H × List MemPlace} (hf : DataW.trod enc Tryz.prog W 0 (fun _ => true) true n 53 cs = some x) (hb : Rows.uptoBulk x.1 ≤ 1048576) : ∃ (s : Sl) (zs : List Int), cs = [.slice s.a s.n s.c] ∧ IsInts W s.v zs := by
  obtain ⟨s, zs, e, h1, h2, -⟩ := list_of (bytes := 8) (size := 1) (f := icell) (P := fun z => -9223372036854775808 ≤ z ∧ z ≤ 9223372036854775807) Tryz.underlying53 cellsI64 (by decide) icell_len (by decide) (fun h _ => i64_in h) hf hb
  exact ⟨s, zs, e, ints_isL h1 h2⟩

set_option maxRecDepth 100000 in
theorem strs_in {n : Nat} {cs : List Value} {x : DataW H × List MemPlace} (hf : DataW.trod enc Tryz.prog W 0 (fun _ => true) true n 22 cs = some x) (hb : Rows.uptoBulk x.1 ≤ 1048576) : ∃ (s : Sl) (zs : List ByteArray), cs = [.slice s.a s.n s.c] ∧ IsStrs W s.v zs ∧ (∀ z ∈ zs, z.size ≤ 1048576) ∧ zs.length ≤ 1048576 :=
  list_of (bytes := 16) (size := 1) (f := scell) (P := fun z => z.size ≤ 1048576) Tryz.underlying22 cellsStr (by decide) (fun _ => rfl) (by decide) (fun h hb => str_in h hb) hf hb

set_option maxRecDepth 100000 in
theorem ten_in {n : Nat} {cs : List Value} {x : DataW H × List MemPlace} (hf : DataW.trod enc Tryz.prog W 0 (fun _ => true) true n 55 cs = some x) (hb : Rows.uptoBulk x.1 ≤ 1048576) : ∃ (ty : Int) (d t : Sl) (ds ts : List Int), cs = [.int .i64 ty, .slice d.a d.n d.c, .slice t.a t.n t.c] ∧ IsInts W d.v ds ∧ IsInts W t.v ts := by
  obtain ⟨xs, n', -, hx, hl, hlen, hfs⟩ := DataW.trod_struct Tryz.underlying55 hf
  rw [cellsTen] at hl
  match cs, hl with
  | [c0, c1, c2], _ =>
    match xs, hlen with
    | [y0, y1, y2], _ =>
      have h0 := hfs 0 _ rfl
      have h1 := hfs 1 _ rfl
      have h2 := hfs 2 _ rfl
      simp [cellsInt] at h0
      simp [cellsSI] at h1
      simp [cellsSL] at h2
      rw [hx] at hb
      simp only [List.map_cons, List.map_nil, Rows.uptoBulk, Rows.uptoBulkAll] at hb
      obtain ⟨ty, e0, -, -⟩ := DataW.trod_int Tryz.underlying3 h0
      obtain ⟨d, ds, e1, i1⟩ := ints_in h1 (by omega)
      obtain ⟨t, ts, e2, i2⟩ := i64s_in h2 (by omega)
      simp at e0 e1 e2
      subst e0 e1 e2
      exact ⟨ty, d, t, ds, ts, rfl, i1, i2⟩

set_option maxRecDepth 100000 in
theorem attr_in {n : Nat} {cs : List Value} {x : DataW H × List MemPlace} (hf : DataW.trod enc Tryz.prog W 0 (fun _ => true) true n 57 cs = some x) (hb : Rows.uptoBulk x.1 ≤ 1048576) : ∃ a : Atr, cs = acells a ∧ (∃ c, Has W a c) ∧ a.s.size ≤ 1048576 := by
  obtain ⟨xs, n', -, hx, hl, hlen, hfs⟩ := DataW.trod_struct Tryz.underlying57 hf
  rw [cellsAttr] at hl
  match cs, hl with
  | [c0, c1, c2, c3, c4, c5, c6, c7, c8], _ =>
    match xs, hlen with
    | [y0, y1, y2, y3, y4, y5, y6], _ =>
      have h0 := hfs 0 _ rfl
      have h1 := hfs 1 _ rfl
      have h2 := hfs 2 _ rfl
      have h3 := hfs 3 _ rfl
      have h4 := hfs 4 _ rfl
      have h5 := hfs 5 _ rfl
      have h6 := hfs 6 _ rfl
      simp [cellsStr] at h0 h4
      simp [cellsInt] at h1
      simp [cellsI64] at h2 h3
      simp [cellsTen] at h5
      simp [cellsSL] at h6
      rw [hx] at hb
      simp only [List.map_cons, List.map_nil, Rows.uptoBulk, Rows.uptoBulkAll] at hb
      obtain ⟨nm, e0, -, -⟩ := DataW.trod_string Tryz.underlying9 h0
      obtain ⟨kd, e1, -, -⟩ := DataW.trod_int Tryz.underlying3 h1
      obtain ⟨f, e2, -, -⟩ := DataW.trod_int Tryz.underlying2 h2
      obtain ⟨i, e3, -, -⟩ := DataW.trod_int Tryz.underlying2 h3
      obtain ⟨s, e4, hs⟩ := str_in (M := 1048576) h4 (by omega)
      obtain ⟨ty, d, t, ds, ts, e5, i1, i2⟩ := ten_in h5 (by omega)
      obtain ⟨u, us, e6, i3⟩ := i64s_in h6 (by omega)
      simp [scell] at e0 e1 e2 e3 e4 e5 e6
      obtain ⟨e5, e7, e8⟩ := e5
      subst e0 e1 e2 e3 e4 e5 e6 e7 e8
      exact ⟨⟨nm, kd, f, i, s, ty, d, t, u⟩, rfl, ⟨⟨ds, ts, us⟩, i1, i2, i3⟩, hs⟩

theorem conts_of : ∀ {xs : List Atr}, (∀ a ∈ xs, ∃ c, Has W a c) → ∃ cs : List Cont, ∀ (j : Nat) (a : Atr), xs[j]? = some a → ∃ c, cs[j]? = some c ∧ Has W a c
  | [], _ => ⟨[], fun j a h => by simp at h⟩
  | x :: l, h => by
    obtain ⟨c, hc⟩ := h x (by simp)
    obtain ⟨cs, hcs⟩ := conts_of (xs := l) (fun a ha => h a (by simp [ha]))
    refine ⟨c :: cs, fun j a hj => ?_⟩
    cases j with
    | zero =>
      obtain rfl : x = a := by simpa using hj
      exact ⟨c, rfl, hc⟩
    | succ j => exact hcs j a (by simpa using hj)

set_option maxRecDepth 100000 in
theorem node_in {n : Nat} {cs : List Value} {x : DataW H × List MemPlace} (hf : DataW.trod enc Tryz.prog W 0 (fun _ => true) true n 25 cs = some x) (hb : Rows.uptoBulk x.1 ≤ 1048576) :
    ∃ (nd : Nod) (ins : List ByteArray) (xs : List Atr) (ks : List Cont), cs = [.string nd.op, .string nd.name, .slice nd.iv.a nd.iv.n nd.iv.c, .string nd.out, .slice nd.av.a nd.av.n nd.av.c] ∧ IsStrs W nd.iv.v ins ∧ IsAttrs W nd.av.v xs ∧ (∀ (j : Nat) (a : Atr), xs[j]? = some a → ∃ c, ks[j]? = some c ∧ Has W a c) ∧ xs.length ≤ 1048576 ∧ (∀ a ∈ xs, a.s.size ≤ 1048576) := by
  obtain ⟨xs, n', -, hx, hl, hlen, hfs⟩ := DataW.trod_struct Tryz.underlying25 hf
  rw [cellsNode] at hl
  match cs, hl with
  | [c0, c1, c2, c3, c4], _ =>
    match xs, hlen with
    | [y0, y1, y2, y3, y4], _ =>
      have h0 := hfs 0 _ rfl
      have h1 := hfs 1 _ rfl
      have h2 := hfs 2 _ rfl
      have h3 := hfs 3 _ rfl
      have h4 := hfs 4 _ rfl
      simp [cellsStr] at h0 h1 h3
      simp [cellsSS] at h2
      simp [cellsSA] at h4
      rw [hx] at hb
      simp only [List.map_cons, List.map_nil, Rows.uptoBulk, Rows.uptoBulkAll] at hb
      obtain ⟨op, e0, -, -⟩ := DataW.trod_string Tryz.underlying9 h0
      obtain ⟨nm, e1, -, -⟩ := DataW.trod_string Tryz.underlying9 h1
      obtain ⟨iv, ins, e2, i1, -, -⟩ := strs_in h2 (by omega)
      obtain ⟨ot, e3, -, -⟩ := DataW.trod_string Tryz.underlying9 h3
      have : Inhabited Atr := ⟨noAtr⟩
      obtain ⟨av, ats, e4, i2, hall, hlen⟩ := list_of (bytes := 136) (size := 9) (f := acells) (P := fun a => (∃ c, Has W a c) ∧ a.s.size ≤ 1048576) Tryz.underlying23 cellsAttr (by decide) acells_len (by decide) (fun h hb => attr_in h hb) h4 (by omega)
      obtain ⟨ks, hks⟩ := conts_of (fun a ha => (hall a ha).1)
      simp at e0 e1 e2 e3 e4
      subst e0 e1 e2 e3 e4
      exact ⟨⟨op, nm, iv, ot, av⟩, ins, ats, ks, rfl, i1, i2, hks, hlen, fun a ha => (hall a ha).2⟩
end
end Go.Proofs.YtdcbjikjeicgbaaGreatDoor

/- A graph that comes in, within the bound. -/
namespace Go.Proofs.YtdcbjikjeicgbaaGreatDoor
open Go.RowKit Go.ChangeShapes

theorem cellsVal : Tryz.prog.cellsOf 31 = 3 := by kernel_rfl

theorem cellsNam : Tryz.prog.cellsOf 74 = 4 := by kernel_rfl

theorem cellsGra : Tryz.prog.cellsOf 42 = 5 := by kernel_rfl

theorem cellsSV : Tryz.prog.cellsOf 26 = 1 := by kernel_rfl

theorem cellsSM : Tryz.prog.cellsOf 40 = 1 := by kernel_rfl

theorem cellsSN : Tryz.prog.cellsOf 39 = 1 := by kernel_rfl

theorem pairs_of {α β : Type} {Q : α → β → Prop} : ∀ {xs : List α}, (∀ a ∈ xs, ∃ b, Q a b) → ∃ ps : List (α × β), ps.map (·.1) = xs ∧ ∀ p ∈ ps, Q p.1 p.2
  | [], _ => ⟨[], rfl, fun p hp => by cases hp⟩
  | x :: l, h => by
    obtain ⟨b, hb⟩ := h x (by simp)
    obtain ⟨ps, e, hps⟩ := pairs_of (xs := l) (fun a ha => h a (by simp [ha]))
    refine ⟨(x, b) :: ps, by simp [e], fun p hp => ?_⟩
    rcases List.mem_cons.1 hp with rfl | hp
    · exact hb
    · exact hps p hp

section
variable {H : Type} {enc : TypeId × Value → H} {W : World}

set_option maxRecDepth 100000 in
theorem value_in {n : Nat} {cs : List Value} {x : DataW H × List MemPlace} (hf : DataW.trod enc Tryz.prog W 0 (fun _ => true) true n 31 cs = some x) (hb : Rows.uptoBulk x.1 ≤ 1048576) : ∃ v : Val, cs = vcells v ∧ (∃ ds, IsInts W v.dv.v ds) ∧ v.name.size ≤ 1048576 := by
  obtain ⟨xs, n', -, hx, hl, hlen, hfs⟩ := DataW.trod_struct Tryz.underlying31 hf
  rw [cellsVal] at hl
  match cs, hl with
  | [c0, c1, c2], _ =>
    match xs, hlen with
    | [y0, y1, y2], _ =>
      have h0 := hfs 0 _ rfl
      have h1 := hfs 1 _ rfl
      have h2 := hfs 2 _ rfl
      simp [cellsStr] at h0
      simp [cellsInt] at h1
      simp [cellsSI] at h2
      rw [hx] at hb
      simp only [List.map_cons, List.map_nil, Rows.uptoBulk, Rows.uptoBulkAll] at hb
      obtain ⟨nm, e0, hs⟩ := str_in (M := 1048576) h0 (by omega)
      obtain ⟨ty, e1, -, -⟩ := DataW.trod_int Tryz.underlying3 h1
      obtain ⟨d, ds, e2, i2⟩ := ints_in h2 (by omega)
      simp [scell] at e0 e1 e2
      subst e0 e1 e2
      exact ⟨⟨nm, ty, d⟩, rfl, ⟨ds, i2⟩, hs⟩

set_option maxRecDepth 100000 in
theorem named_in {n : Nat} {cs : List Value} {x : DataW H × List MemPlace} (hf : DataW.trod enc Tryz.prog W 0 (fun _ => true) true n 74 cs = some x) (hb : Rows.uptoBulk x.1 ≤ 1048576) : ∃ v : Nam, cs = mcells v ∧ (∃ q : List Int × List Int, IsInts W v.dv.v q.1 ∧ IsInts W v.tv.v q.2) ∧ v.name.size ≤ 1048576 := by
  obtain ⟨xs, n', -, hx, hl, hlen, hfs⟩ := DataW.trod_struct Tryz.underlying74 hf
  rw [cellsNam] at hl
  match cs, hl with
  | [c0, c1, c2, c3], _ =>
    match xs, hlen with
    | [y0, y1], _ =>
      have h0 := hfs 0 _ rfl
      have h1 := hfs 1 _ rfl
      simp [cellsStr] at h0
      simp [cellsTen] at h1
      rw [hx] at hb
      simp only [List.map_cons, List.map_nil, Rows.uptoBulk, Rows.uptoBulkAll] at hb
      obtain ⟨nm, e0, hs⟩ := str_in (M := 1048576) h0 (by omega)
      obtain ⟨ty, d, t, ds, ts, e1, i1, i2⟩ := ten_in h1 (by omega)
      simp [scell] at e0 e1
      obtain ⟨e1, e2, e3⟩ := e1
      subst e0 e1 e2 e3
      exact ⟨⟨nm, ty, d, t⟩, rfl, ⟨(ds, ts), i1, i2⟩, hs⟩

set_option maxRecDepth 100000 in
theorem nodg_in {n : Nat} {cs : List Value} {x : DataW H × List MemPlace} (hf : DataW.trod enc Tryz.prog W 0 (fun _ => true) true n 25 cs = some x) (hb : Rows.uptoBulk x.1 ≤ 1048576) :
    ∃ nd : Nod, cs = ncells nd ∧ (∃ q : List ByteArray × List Atr × List Cont, NodeIn W nd q.1 q.2.1 q.2.2 ∧ q.1.length ≤ 1048576 ∧ ∀ z ∈ q.1, z.size ≤ 1048576) ∧ nd.out.size ≤ 1048576 := by
  obtain ⟨xs, n', -, hx, hl, hlen, hfs⟩ := DataW.trod_struct Tryz.underlying25 hf
  rw [cellsNode] at hl
  match cs, hl with
  | [c0, c1, c2, c3, c4], _ =>
    match xs, hlen with
    | [y0, y1, y2, y3, y4], _ =>
      have h0 := hfs 0 _ rfl
      have h1 := hfs 1 _ rfl
      have h2 := hfs 2 _ rfl
      have h3 := hfs 3 _ rfl
      have h4 := hfs 4 _ rfl
      simp [cellsStr] at h0 h1 h3
      simp [cellsSS] at h2
      simp [cellsSA] at h4
      rw [hx] at hb
      simp only [List.map_cons, List.map_nil, Rows.uptoBulk, Rows.uptoBulkAll] at hb
      obtain ⟨op, e0, -, -⟩ := DataW.trod_string Tryz.underlying9 h0
      obtain ⟨nm, e1, -, -⟩ := DataW.trod_string Tryz.underlying9 h1
      obtain ⟨iv, ins, e2, i1, z1, z2⟩ := strs_in h2 (by omega)
      obtain ⟨ot, e3, zo⟩ := str_in (M := 1048576) h3 (by omega)
      have : Inhabited Atr := ⟨noAtr⟩
      obtain ⟨av, ats, e4, i2, hall, hlen⟩ := list_of (bytes := 136) (size := 9) (f := acells) (P := fun a => (∃ c, Has W a c) ∧ a.s.size ≤ 1048576) Tryz.underlying23 cellsAttr (by decide) acells_len (by decide) (fun h hb => attr_in h hb) h4 (by omega)
      obtain ⟨ks, hks⟩ := conts_of (fun a ha => (hall a ha).1)
      simp [scell] at e0 e1 e2 e3 e4
      subst e0 e1 e2 e3 e4
      exact ⟨⟨op, nm, iv, ot, av⟩, rfl, ⟨(ins, ats, ks), ⟨i1, i2, hks, Nat.le_trans hlen (by decide), fun a ha => (hall a ha).2⟩, z2, z1⟩, zo⟩

set_option maxRecDepth 100000 in
theorem graph_in {n : Nat} {cs : List Value} {x : DataW H × List MemPlace} (hf : DataW.trod enc Tryz.prog W 0 (fun _ => true) true n 42 cs = some x) (hb : Rows.uptoBulk x.1 ≤ 1048576) :
    ∃ (g : Gra) (ns : List Nc) (vin vout : List (Val × List Int)) (its : List (Nam × List Int × List Int)), cs = [.string g.name, .slice g.nv.a g.nv.n g.nv.c, .slice g.iv.a g.iv.n g.iv.c, .slice g.ov.a g.ov.n g.ov.c, .slice g.tv.a g.tv.n g.tv.c] ∧ GraphOk W g ns vin vout its := by
  obtain ⟨xs, n', -, hx, hl, hlen, hfs⟩ := DataW.trod_struct Tryz.underlying42 hf
  rw [cellsGra] at hl
  match cs, hl with
  | [c0, c1, c2, c3, c4], _ =>
    match xs, hlen with
    | [y0, y1, y2, y3, y4], _ =>
      have h0 := hfs 0 _ rfl
      have h1 := hfs 1 _ rfl
      have h2 := hfs 2 _ rfl
      have h3 := hfs 3 _ rfl
      have h4 := hfs 4 _ rfl
      simp [cellsStr] at h0
      simp [cellsSN] at h1
      simp [cellsSV] at h2 h3
      simp [cellsSM] at h4
      rw [hx] at hb
      simp only [List.map_cons, List.map_nil, Rows.uptoBulk, Rows.uptoBulkAll] at hb
      obtain ⟨nm, e0, -, -⟩ := DataW.trod_string Tryz.underlying9 h0
      have : Inhabited Nod := ⟨⟨⟨#[]⟩, ⟨#[]⟩, nilS, ⟨#[]⟩, nilS⟩⟩
      have : Inhabited Val := ⟨⟨⟨#[]⟩, 0, nilS⟩⟩
      have : Inhabited Nam := ⟨⟨⟨#[]⟩, 0, nilS, nilS⟩⟩
      obtain ⟨nv, nds, e1, i1, a1, l1⟩ := list_of (bytes := 96) (size := 5) (f := ncells) (P := fun nd => (∃ q : List ByteArray × List Atr × List Cont, NodeIn W nd q.1 q.2.1 q.2.2 ∧ q.1.length ≤ 1048576 ∧ ∀ z ∈ q.1, z.size ≤ 1048576) ∧ nd.out.size ≤ 1048576) Tryz.underlying39 cellsNode (by decide) ncells_len (by decide) (fun h hb => nodg_in h hb) h1 (by omega)
      obtain ⟨iv, vs, e2, i2, a2, l2⟩ := list_of (bytes := 48) (size := 3) (f := vcells) (P := fun v => (∃ ds, IsInts W v.dv.v ds) ∧ v.name.size ≤ 1048576) Tryz.underlying26 cellsVal (by decide) vcells_len (by decide) (fun h hb => value_in h hb) h2 (by omega)
      obtain ⟨ov, us, e3, i3, a3, l3⟩ := list_of (bytes := 48) (size := 3) (f := vcells) (P := fun v => (∃ ds, IsInts W v.dv.v ds) ∧ v.name.size ≤ 1048576) Tryz.underlying26 cellsVal (by decide) vcells_len (by decide) (fun h hb => value_in h hb) h3 (by omega)
      obtain ⟨tv, ts, e4, i4, a4, l4⟩ := list_of (bytes := 72) (size := 4) (f := mcells) (P := fun v => (∃ q : List Int × List Int, IsInts W v.dv.v q.1 ∧ IsInts W v.tv.v q.2) ∧ v.name.size ≤ 1048576) Tryz.underlying40 cellsNam (by decide) mcells_len (by decide) (fun h hb => named_in h hb) h4 (by omega)
      obtain ⟨p1, q1, b1⟩ := pairs_of (fun a ha => (a1 a ha).1)
      obtain ⟨p2, q2, b2⟩ := pairs_of (fun a ha => (a2 a ha).1)
      obtain ⟨p3, q3, b3⟩ := pairs_of (fun a ha => (a3 a ha).1)
      obtain ⟨p4, q4, b4⟩ := pairs_of (fun a ha => (a4 a ha).1)
      simp at e0 e1 e2 e3 e4
      subst e0 e1 e2 e3 e4
      have qn : ((p1.map (fun p => (⟨p.1, p.2.1, p.2.2.1, p.2.2.2⟩ : Nc))).map (·.n)) = nds := by rw [← q1, List.map_map]; rfl
      refine ⟨⟨nm, nv, iv, ov, tv⟩, p1.map (fun p => ⟨p.1, p.2.1, p.2.2.1, p.2.2.2⟩), p2, p3, p4, rfl, ⟨by rw [qn]; exact i1, by rw [q2]; exact i2, by rw [q3]; exact i3, by rw [q4]; exact i4, fun c hc => ?_, b2, b3, b4, fun p hp => ?_, ?_⟩, fun y hy => ?_, fun y hy => ?_, fun c hc => ?_⟩
      · obtain ⟨p, hp, rfl⟩ := List.mem_map.1 hc
        exact (b1 p hp).1
      · exact (a2 p.1 (by rw [← q2]; exact List.mem_map.2 ⟨p, hp, rfl⟩)).2
      · have k1 := congrArg List.length q1
        have k2 := congrArg List.length q2
        have k3 := congrArg List.length q3
        have k4 := congrArg List.length q4
        simp only [List.length_map] at k1 k2 k3 k4
        rw [List.length_map]
        omega
      · unfold vnames at hy
        rw [qn, q2, q4] at hy
        rcases List.mem_append.1 hy with hy | hy
        · rcases List.mem_append.1 hy with hy | hy
          · obtain ⟨v, hv, rfl⟩ := List.mem_map.1 hy
            exact (a2 v hv).2
          · obtain ⟨v, hv, rfl⟩ := List.mem_map.1 hy
            exact (a4 v hv).2
        · obtain ⟨v, hv, rfl⟩ := List.mem_map.1 hy
          exact (a1 v hv).2
      · unfold onames at hy
        rw [q3] at hy
        obtain ⟨v, hv, rfl⟩ := List.mem_map.1 hy
        exact (a3 v hv).2
      · obtain ⟨p, hp, rfl⟩ := List.mem_map.1 hc
        exact (b1 p hp).2
end
end Go.Proofs.YtdcbjikjeicgbaaGreatDoor
