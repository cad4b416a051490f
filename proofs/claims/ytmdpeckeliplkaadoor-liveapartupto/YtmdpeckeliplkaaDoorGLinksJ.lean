/- Waits and readers of a graph's nodes, by the walk. -/
import Derived.Test.YtmdpeckeliplkaaDoorGLnkJ
import Derived.Deep.AppendLies
import Derived.Deep.RegionHeld3
import Derived.Deep.RegionLaw
import Derived.Deep.RegionLawGrows
import Derived.Laws.MakeOwn
namespace Go.Proofs.YtmdpeckeliplkaaDoor
open Go.RowKit

theorem infoInts : (Tryd.prog.info? 40).map (fun i => (i.zero, i.size, i.bytes)) = some (some (.slice none 0 0), 1, 24) := by kernel_rfl

theorem three (w : World) (a b c : Obj) : (((w.alloc a).alloc b).alloc c).drew.heap[w.heap.size]? = some a ∧ (((w.alloc a).alloc b).alloc c).drew.heap[w.heap.size + 1]? = some b ∧ (((w.alloc a).alloc b).alloc c).drew.heap[w.heap.size + 1 + 1]? = some c ∧ w.grownBy (((w.alloc a).alloc b).alloc c).drew none := by
  have e1 : (w.alloc a).heap.size = w.heap.size + 1 := by simp
  have e2 : ((w.alloc a).alloc b).heap.size = w.heap.size + 1 + 1 := by simp
  have k1 := heap_alloc_new w a
  have k2 := heap_alloc_new (w.alloc a) b
  have k3 := heap_alloc_new ((w.alloc a).alloc b) c
  rw [e1] at k2
  rw [e2] at k3
  exact ⟨((grown_drew (grown_trans (grown_new (w.alloc a) b) (grown_new _ c))).block w.heap.size (by omega) (by simp)).trans k1, ((grown_drew (grown_new ((w.alloc a).alloc b) c)).block (w.heap.size + 1) (by omega) (by simp)).trans k2, k3, grown_drew (grown_trans (grown_trans (grown_new _ _) (grown_new _ _)) (grown_new _ _))⟩

theorem lk_made {w : World} {base Bw Br n : Nat} (hw : base ≤ Bw) (hr : base ≤ Br) (hne : Bw ≠ Br) (hn : n ≤ 1048576) (M1 M2 : Array Value) (e1 : M1.toList = List.replicate n (.int .i64 0)) (e2 : M2.toList = List.replicate n (.slice none 0 0)) (h1 : w.heap[Bw]? = some (.cells M1 3 (0, 0))) (h2 : w.heap[Br]? = some (.cells M2 40 (0, 0))) :
    Lk w base Bw Br (List.replicate n 0, List.replicate n []) (List.replicate n nilS) := by
  have s1 : M1.size = n := by rw [← Array.length_toList, e1, List.length_replicate]
  have s2 : M2.size = n := by rw [← Array.length_toList, e2, List.length_replicate]
  have nd : ∀ k, (List.replicate n nilS).getD k nilS = nilS := fun k => by
    rw [List.getD, List.getElem?_replicate]
    split <;> rfl
  have rd : ∀ k, (List.replicate n ([] : List Int)).getD k [] = [] := fun k => by
    rw [List.getD, List.getElem?_replicate]
    split <;> rfl
  refine ⟨?_, ?_, by simp, fun k hk => ?_, fun k hk g e => ?_, hne⟩
  · unfold OwnW
    simp only [List.length_replicate]
    refine ⟨by simp, Or.inr ⟨Bw, n, M1, rfl, hw, h1, Nat.le_refl _, by simp only [maxLen]; omega, by omega, ?_⟩⟩
    rw [e1, Nat.mul_one, List.take_of_length_le (by simp)]
    simp
  · simp only [List.length_replicate]
    refine ⟨by simp, Or.inr ⟨Br, n, M2, rfl, hr, h2, Nat.le_refl _, by simp only [maxLen]; omega, by omega, ?_⟩⟩
    rw [e2, Nat.mul_one, List.take_of_length_le (by simp)]
    simp
  · show Owns w base ((List.replicate n nilS).getD k nilS).v ((List.replicate n ([] : List Int)).getD k [])
    rw [nd, rd]
    exact ⟨World.ownsRow_nil _ _ _ _, by simp, by simp⟩
  · rw [nd] at e
    cases e

/-- Where the links stand: how they lie, and the variable that holds them. -/
structure LSt (w1 wr : World) (S Q Bw Br n : Nat) (p : List Int × List (List Int)) (rs : List Sl) : Prop where
  lk : Lk wr w1.heap.size Bw Br p rs
  box : wr.heap[Q]? = some (.cells #[.slice (some ⟨Bw, 0, none⟩) n n, .slice (some ⟨Br, 0, none⟩) n n] 100 (0, 0))
  high : ∀ k g, (rs.getD k nilS).v.ownBlock = some g → S ≤ g
  grown : w1.grownBy wr none
  size : S ≤ wr.heap.size
  low : Q < S
  n1 : Q ≠ Bw
  n2 : Q ≠ Br

theorem LSt.new {w1 wr w' : World} {S Q Bw Br n : Nat} {p : List Int × List (List Int)} {rs : List Sl} (h : LSt w1 wr S Q Bw Br n p rs) (hg : wr.grownBy w' none) : LSt w1 w' S Q Bw Br n p rs :=
  ⟨h.lk.new hg, (hg.block Q (by have := h.low; have := h.size; omega) (by simp)).trans h.box, h.high, grown_trans h.grown hg, Nat.le_trans h.size hg.size, h.low, h.n1, h.n2⟩

theorem LSt.inc {w1 wr : World} {S Q Bw Br n : Nat} {W : List Int} {R : List (List Int)} {rs : List Sl} (h : LSt w1 wr S Q Bw Br n (W, R) rs) (i : Nat) (x : Int) : LSt w1 (wr.setCell ⟨Bw, i, none⟩ (.int .i64 x)) S Q Bw Br n (W.set i x, R) rs := by
  have s := h.lk.inc i x
  refine ⟨s.1, (s.2.block Q (by have := h.low; have := h.size; omega) (by simpa using h.n1)).trans h.box, h.high, grown_trans_row h.grown s.2 (fun g e => ?_), Nat.le_trans h.size s.2.size, h.low, h.n1, h.n2⟩
  injection e with e
  have := h.lk.own.lt.1
  omega

theorem LSt.app {w1 wr w8 : World} {S Q Bw Br n : Nat} {W : List Int} {R : List (List Int)} {rs : List Sl} (h : LSt w1 wr S Q Bw Br n (W, R) rs) {m : Nat} (hm : m < R.length) {v' : Sl} {i : Nat} (hg : wr.grownBy w8 (rs.getD m nilS).v.ownBlock)
    (ho : w8.ownsRow w1.heap.size 3 1 v'.v ((R.getD m []).length + 1) ((R.getD m []).map (Value.int .i64) ++ [.int .i64 (i : Int)])) (hat : v'.v.ownBlock = (rs.getD m nilS).v.ownBlock ∨ v'.v.ownBlock = some wr.heap.size) (hi : i ≤ 1048576) (hl : (R.getD m []).length ≤ 1099511627776) :
    LSt w1 (w8.setCell ⟨Br, m, none⟩ (.slice v'.a v'.n v'.c)) S Q Bw Br n (W, R.set m (R.getD m [] ++ [(i : Int)])) (rs.set m v') := by
  have s := h.lk.app hm hg ho hat hi hl
  have hlen : rs.length = R.length := h.lk.len
  have hsz := hg.size
  have hS := h.size
  have hlow := h.low
  refine ⟨s.1, ?_, fun k g e => ?_, ?_, Nat.le_trans (Nat.le_trans h.size hg.size) s.2.size, h.low, h.n1, h.n2⟩
  · refine ((s.2.block Q (by omega) (by simpa using h.n2)).trans (hg.block Q (by omega) (fun e => ?_))).trans h.box
    have := h.high m Q e.symm
    omega
  · have gset : (rs.set m v').getD k nilS = if k = m then v' else rs.getD k nilS := by
      by_cases e : k = m
      · subst e
        rw [if_pos rfl, List.getD, List.getElem?_set_self (by omega)]
        rfl
      · rw [if_neg e, List.getD, List.getElem?_set_ne (fun h => e h.symm)]
        rfl
    rw [gset] at e
    by_cases ek : k = m
    · rw [if_pos ek] at e
      rcases hat with h1 | h1
      · exact h.high m g (h1.symm.trans e)
      · rw [h1] at e
        injection e with e
        omega
    · rw [if_neg ek] at e
      exact h.high k g e
  · refine grown_trans_row (grown_trans_row h.grown hg (fun g e => ?_)) s.2 (fun g e => ?_)
    · exact ((h.lk.each m hm).lt g e).1
    · injection e with e
      have := (World.ownsRow.lt h.lk.row Br rfl).1
      omega

theorem row_base_le {w : World} {base b' : Nat} {e : TypeId} {size : Nat} {v : Value} {n : Nat} {xs : List Value} (h : w.ownsRow base e size v n xs) (hb : b' ≤ base) : w.ownsRow b' e size v n xs := by
  refine ⟨h.1, ?_⟩
  rcases h.2 with h0 | ⟨g, cap, cur, e, hg, r⟩
  · exact .inl h0
  · exact .inr ⟨g, cap, cur, e, by omega, r⟩

theorem Lk.base_le {w : World} {base b' Bw Br : Nat} {p : List Int × List (List Int)} {rs : List Sl} (h : Lk w base Bw Br p rs) (hb : b' ≤ base) : Lk w b' Bw Br p rs :=
  ⟨row_base_le h.own hb, row_base_le h.row hb, h.len, fun k hk => (h.each k hk).base_le hb, h.apart, h.ne⟩

theorem links_cells {w : World} {Q : Nat} {u v : Value} {t : TypeId} (hb : w.heap[Q]? = some (.cells #[u, v] t (0, 0))) : w.cell? ⟨Q, 0, none⟩ = some u ∧ w.cell? ⟨Q, 1, none⟩ = some v :=
  ⟨(cell_of_row _ _ 0 _ _ (0, 0) hb).trans rfl, (cell_of_row _ _ 1 _ _ (0, 0) hb).trans rfl⟩

theorem Lk.past {w w' : World} {base Bw Br B : Nat} {p : List Int × List (List Int)} {rs : List Sl} (h : Lk w base Bw Br p rs) (hB : B < base) (hg : w.grownBy w' (some B)) : Lk w' base Bw Br p rs := by
  have h1 := (World.ownsRow.lt h.own Bw rfl).1
  have h2 := (World.ownsRow.lt h.row Br rfl).1
  refine ⟨World.ownsRow.kept h.own hg (Or.inr ?_), World.ownsRow.kept h.row hg (Or.inr ?_), h.len, fun k hk => (h.each k hk).more hg (some_or fun g e => ?_), h.apart, h.ne⟩
  · simp [Value.ownBlock]; omega
  · simp [Value.ownBlock]; omega
  · have := ((h.each k hk).lt g e).1
    simp; omega

theorem grown_drewr {a b : World} {row : Option Nat} (h : a.grownBy b row) : a.grownBy b.drew row := ⟨h.os, h.tape, h.output, h.size, h.block⟩

theorem grown_allocr {a b : World} {row : Option Nat} (h : a.grownBy b row) (o : Obj) : a.grownBy (b.alloc o) row := h.trans (World.grownBy_alloc b o row)

theorem lnksInfo : (Tryd.prog.info? 100).map (·.size) = some 2 := by kernel_rfl

theorem ret_links {fn : Func} {p : Tmp} (h : fn.results = #[.cell p 100]) (tmps : Array Value) (w : World) (B : Nat) (hp : tmps.getD p undef = .pointer (some ⟨B, 0, none⟩)) {a0 a1 : Value}
    (hb : w.heap[B]? = some (.cells #[a0, a1] 100 (0, 0))) : (results fn tmps).run Tryd.prog w = .ok (.agg #[a0, a1]) w :=
  results_cell_row h tmps w B 100 #[a0, a1] (0, 0) _ hp hb Tryd.underlying100 rfl (by rw [lnksInfo]; rfl)

theorem store2l {w3 : World} {B : Nat} {z0 z1 : Value} {t : TypeId} (a b : Value) (hb : w3.heap[B]? = some (.cells #[z0, z1] t (0, 0))) :
    ((w3.setCell ⟨B, 0, none⟩ a).setCell ⟨B, 1, none⟩ b).heap[B]? = some (.cells #[a, b] t (0, 0)) ∧ w3.grownBy ((w3.setCell ⟨B, 0, none⟩ a).setCell ⟨B, 1, none⟩ b) (some B) := by
  have h1 := heap_setCell_same w3 B 0 _ _ a hb
  have h2 := heap_setCell_same _ B 1 _ _ b h1
  have g : ∀ (x : World) (j : Nat) (v : Value), x.grownBy (x.setCell ⟨B, j, none⟩ v) (some B) := fun x j v =>
    ⟨rfl, rfl, rfl, by simp [World.setCell], fun k _ hk => Below.heap_setCell _ _ _ _ (fun e => hk (by rw [e]))⟩
  exact ⟨by simpa using h2, grown_same (g w3 0 a) (g _ 1 b)⟩

set_option maxRecDepth 100000 in
set_option maxHeartbeats 6400000 in
theorem linksof_any (g : Gra) (cs : List Nc) (vin : List Val) (its : List Nam) (b : Nat) (l : List ByteArray) (w : World) (h1 : IsNods w g.nv.v (cs.map (·.n))) (h2 : IsVals w g.iv.v vin) (h4 : IsNams w g.tv.v its) (hf : cs.length ≤ 1024 ∧ vin.length ≤ 1048576 ∧ its.length ≤ 1048576)
    (hin : ∀ c ∈ cs, IsStrs w c.n.iv.v c.ins ∧ c.ins.length ≤ 1048576 ∧ ∀ x ∈ c.ins, x.size ≤ 1048576 ∧ inL x l = true) (hl : l.length = vin.length + its.length + cs.length) (hn : Nums w b l) :
    Calls Tryd.prog 58 #[gval g, .map (some b)] w fun e w' => ∃ (Bw Br : Nat) (rs : List Sl), e = .returned (.agg #[.slice (some ⟨Bw, 0, none⟩) cs.length cs.length, .slice (some ⟨Br, 0, none⟩) cs.length cs.length]) ∧ Lk w' w.heap.size Bw Br (linksN cs l (vin.length + its.length) cs.length) rs ∧ w.grownBy w' none := by
  obtain ⟨i0, hi, hz0, hz1, hz2⟩ := info_parts infoInt
  obtain ⟨j0, hj, hy0, hy1, hy2⟩ := info_parts infoInts
  obtain ⟨f1, f2, f4⟩ := hf
  obtain ⟨nam, ⟨na0, nn0, nc0⟩, ⟨ia, iN, ic⟩, ⟨oa, oN, oc⟩, ⟨ta, tN, tc⟩⟩ := g
  have H1 := hide h1
  have HIN := hide hin
  have HNU := hide hn
  obtain ⟨xa, xc, e1, p1, p2, p3⟩ := h1.form
  rw [List.length_map] at e1 p1 p3
  obtain ⟨rfl, rfl, rfl⟩ : na0 = xa ∧ nn0 = cs.length ∧ nc0 = xc := by simpa [Sl.v] using e1
  obtain ⟨ya, yc, e2, p4, p5, p6⟩ := h2.form
  obtain ⟨rfl, rfl, rfl⟩ : ia = ya ∧ iN = vin.length ∧ ic = yc := by simpa [Sl.v] using e2
  obtain ⟨qa, qc, e4, p10, p11, p12⟩ := h4.form
  obtain ⟨rfl, rfl, rfl⟩ : ta = qa ∧ tN = its.length ∧ tc = qc := by simpa [Sl.v] using e4
  clear h1 h2 h4 e1 e2 e4 hin hn
  obtain ⟨M1, hM1⟩ : ∃ M, M = madeCells (Value.int .i64 0).cells (((cs.length : Nat) : Int).toNat * i0.size) := ⟨_, rfl⟩
  obtain ⟨M2, hM2⟩ : ∃ M, M = madeCells (Value.slice none 0 0).cells (((cs.length : Nat) : Int).toNat * j0.size) := ⟨_, rfl⟩
  have E1 : Hid (M1.toList = List.replicate cs.length (.int .i64 0)) := by show _ = _; rw [hM1, hz1, Nat.mul_one, show (Value.int .i64 0).cells = #[Value.int .i64 0] from rfl, toList_madeCells_one]; simp
  have E2 : Hid (M2.toList = List.replicate cs.length (.slice none 0 0)) := by show _ = _; rw [hM2, hy1, Nat.mul_one, show (Value.slice none 0 0).cells = #[Value.slice none 0 0] from rfl, toList_madeCells_one]; simp
  have mk1 : ∀ W : World, (Instr.makeSlice 40 (.int .i64 (cs.length : Int)) (.int .i64 (cs.length : Int))).run Tryd.prog W = .ok (.slice (some ⟨W.heap.size, 0, none⟩) cs.length cs.length) (W.alloc (.cells M1 3)) := fun W => by
    have h := Go.run_make (P := Tryd.prog) W 40 3 i0 (.int .i64 0) Tryd.underlying40 hi hz0 .i64 .i64 (cs.length : Int) (cs.length : Int) (by omega) (by omega) (by rw [hz2]; omega) (by omega)
    rw [← hM1] at h
    simpa using h
  have mk2 : ∀ W : World, (Instr.makeSlice 61 (.int .i64 (cs.length : Int)) (.int .i64 (cs.length : Int))).run Tryd.prog W = .ok (.slice (some ⟨W.heap.size, 0, none⟩) cs.length cs.length) (W.alloc (.cells M2 40)) := fun W => by
    have h := Go.run_make (P := Tryd.prog) W 61 40 j0 (.slice none 0 0) Tryd.underlying61 hj hy0 .i64 .i64 (cs.length : Int) (cs.length : Int) (by omega) (by omega) (by rw [hy2]; omega) (by omega)
    rw [← hM2] at h
    simpa using h
  clear hM1 hM2
  unfold gval
  simp only
  obtain ⟨w0, hw0⟩ : ∃ w0, w0 = w.alloc (.cells #[.string nam, .slice na0 cs.length nc0, .slice ia vin.length ic, .slice oa oN oc, .slice ta its.length tc] 26) := ⟨_, rfl⟩
  have g0 : w.grownBy w0 none := by rw [hw0]; exact grown_new _ _
  have b0 := heap_alloc_new w (.cells #[.string nam, .slice na0 cs.length nc0, .slice ia vin.length ic, .slice oa oN oc, .slice ta its.length tc] 26)
  rw [← hw0] at b0
  have BX : Hid (∀ wx, w0.grownBy wx none → wx.heap[w.heap.size]? = some (.cells #[.string nam, .slice na0 cs.length nc0, .slice ia vin.length ic, .slice oa oN oc, .slice ta its.length tc] 26 (0, 0))) := fun wx hx => box_kept b0 hx
  have hS0 : Hid (w0.heap.size = w.heap.size + 1) := by show _ = _; rw [hw0]; simp
  clear b0
  go_enter Tryd.func58, Tryd.ntmps58
  go_wp2_with fail
  rw [← hw0]
  clear hw0
  obtain ⟨w1, hw1⟩ : ∃ w1, w1 = w0.alloc (.cells #[.slice none 0 0, .slice none 0 0] 100) := ⟨_, rfl⟩
  have g1 : w0.grownBy w1 none := by rw [hw1]; exact grown_new _ _
  have b1 := heap_alloc_new w0 (.cells #[.slice none 0 0, .slice none 0 0] 100)
  rw [← hw1] at b1
  have RX : Hid (∀ wx, w1.grownBy wx none → wx.heap[w0.heap.size]? = some (.cells #[.slice none 0 0, .slice none 0 0] 100 (0, 0))) := fun wx hx => box_kept b1 hx
  have hS1 : Hid (w1.heap.size = w0.heap.size + 1) := by show _ = _; rw [hw1]; simp
  obtain ⟨r0, r1, r2, r3, r4⟩ := gra_cells (g := ⟨nam, ⟨na0, cs.length, nc0⟩, ⟨ia, vin.length, ic⟩, ⟨oa, oN, oc⟩, ⟨ta, its.length, tc⟩⟩) (BX.out w1 g1)
  clear b1
  rw [← hw1]
  clear hw1
  go_cut [5] from 11 to 19 (fun p wx => ∃ (Q Bw Br : Nat), p = .pointer (some ⟨Q, 0, none⟩) ∧ wx.heap[Q]? = some (.cells #[.slice (some ⟨Bw, 0, none⟩) cs.length cs.length, .slice (some ⟨Br, 0, none⟩) cs.length cs.length] 100 (0, 0)) ∧ Q ≠ Bw ∧ Q ≠ Br ∧ w1.heap.size ≤ Q ∧ Lk wx w1.heap.size Bw Br (linksN cs l (vin.length + its.length) 0) (List.replicate cs.length nilS) ∧ w1.grownBy wx none)
  case first =>
    have KP : Hid (∀ wx, w1.grownBy wx none → wx.cell? ⟨w.heap.size, 1, none⟩ = some (.slice na0 cs.length nc0)) := fun wx hx => (gra_cells (g := ⟨nam, ⟨na0, cs.length, nc0⟩, ⟨ia, vin.length, ic⟩, ⟨oa, oN, oc⟩, ⟨ta, its.length, tc⟩⟩) (BX.out wx (grown_trans g1 hx))).2.1
    go_region_held3 (fun w' => w'.cell? ⟨w.heap.size, 1, none⟩ = some (.slice na0 cs.length nc0)) (first | (refine KP.out _ ?_; repeat (first | exact grown_refl _ | refine grown_drew ?_ | refine grown_trans ?_ (grown_new _ _))) | go_keep) (fail)
    · go_wp2_with fail
      go_meet
      obtain ⟨t1, t2, t3, t4⟩ := three w1 (.cells M1 3) (.cells M2 40) (.cells #[.slice (some ⟨w1.heap.size, 0, none⟩) cs.length cs.length, .slice (some ⟨w1.heap.size + 1, 0, none⟩) cs.length cs.length] 100)
      exact ⟨_, _, _, rfl, t3, by omega, by omega, by omega, lk_made (Nat.le_refl _) (by omega) (by omega) (by omega) M1 M2 E1.out E2.out t1 t2, t4⟩
    · go_wp2_with fail
      go_meet
      obtain ⟨t1, t2, t3, t4⟩ := three w1 (.cells M1 3) (.cells #[.slice (some ⟨w1.heap.size, 0, none⟩) cs.length cs.length, .slice (some ⟨w1.heap.size + 1 + 1, 0, none⟩) cs.length cs.length] 100) (.cells M2 40)
      exact ⟨_, _, _, rfl, t2, by omega, by omega, by omega, lk_made (Nat.le_refl _) (by omega) (by omega) (by omega) M1 M2 E1.out E2.out t1 t3, t4⟩
    · go_wp2_with fail
      go_meet
      obtain ⟨t1, t2, t3, t4⟩ := three w1 (.cells M2 40) (.cells M1 3) (.cells #[.slice (some ⟨w1.heap.size + 1, 0, none⟩) cs.length cs.length, .slice (some ⟨w1.heap.size, 0, none⟩) cs.length cs.length] 100)
      exact ⟨_, _, _, rfl, t3, by omega, by omega, by omega, lk_made (by omega) (by omega) (by omega) (by omega) M1 M2 E1.out E2.out t2 t1, t4⟩
    · go_wp2_with fail
      go_meet
      obtain ⟨t1, t2, t3, t4⟩ := three w1 (.cells M2 40) (.cells #[.slice (some ⟨w1.heap.size + 1 + 1, 0, none⟩) cs.length cs.length, .slice (some ⟨w1.heap.size, 0, none⟩) cs.length cs.length] 100) (.cells M1 3)
      exact ⟨_, _, _, rfl, t2, by omega, by omega, by omega, lk_made (by omega) (by omega) (by omega) (by omega) M1 M2 E1.out E2.out t3 t1, t4⟩
    · go_wp2_with fail
      go_meet
      obtain ⟨t1, t2, t3, t4⟩ := three w1 (.cells #[.slice (some ⟨w1.heap.size + 1, 0, none⟩) cs.length cs.length, .slice (some ⟨w1.heap.size + 1 + 1, 0, none⟩) cs.length cs.length] 100) (.cells M1 3) (.cells M2 40)
      exact ⟨_, _, _, rfl, t1, by omega, by omega, by omega, lk_made (by omega) (by omega) (by omega) (by omega) M1 M2 E1.out E2.out t2 t3, t4⟩
    · go_wp2_with fail
      go_meet
      obtain ⟨t1, t2, t3, t4⟩ := three w1 (.cells #[.slice (some ⟨w1.heap.size + 1 + 1, 0, none⟩) cs.length cs.length, .slice (some ⟨w1.heap.size + 1, 0, none⟩) cs.length cs.length] 100) (.cells M2 40) (.cells M1 3)
      exact ⟨_, _, _, rfl, t1, by omega, by omega, by omega, lk_made (by omega) (by omega) (by omega) (by omega) M1 M2 E1.out E2.out t3 t2, t4⟩
  case rest =>
    obtain ⟨Q, Bw, Br, rfl, hQ, hq1, hq2, hq3, hlk, hg2⟩ := hcut
    have hQs : Q < wc.heap.size := by
      rcases Nat.lt_or_ge Q wc.heap.size with h | h
      · exact h
      · rw [Array.getElem?_eq_none h] at hQ
        cases hQ
    have ST0 : Hid (LSt w1 wc wc.heap.size Q Bw Br cs.length (linksN cs l (vin.length + its.length) 0) (List.replicate cs.length nilS)) := by
      refine ⟨hlk, hQ, fun k g e => ?_, hg2, Nat.le_refl _, hQs, hq1, hq2⟩
      rw [show (List.replicate cs.length nilS).getD k nilS = nilS by rw [List.getD, List.getElem?_replicate]; split <;> rfl] at e
      cases e
    obtain ⟨S, hS⟩ : ∃ S, S = wc.heap.size := ⟨_, rfl⟩
    rw [← hS] at ST0
    obtain ⟨r0, r1, r2, r3, r4⟩ := gra_cells (g := ⟨nam, ⟨na0, cs.length, nc0⟩, ⟨ia, vin.length, ic⟩, ⟨oa, oN, oc⟩, ⟨ta, its.length, tc⟩⟩) (BX.out wc (grown_trans g1 hg2))
    clear hQ hq1 hq2 hq3 hlk hS hQs hg2
    go_wp2_with fail
    clear r0 r1 r2 r3 r4
    go_loopg [23] cs.length (fun gh i wr => ∃ (k : Nat) (rs : List Sl), gh = cs.length - k ∧ k ≤ cs.length ∧ i = .int .i64 k ∧ LB cs.length (k * 1048576) (linksN cs l (vin.length + its.length) k) ∧ LSt w1 wr S Q Bw Br cs.length (linksN cs l (vin.length + its.length) k) rs)
    case atStart => exact ⟨0, _, rfl, Nat.zero_le _, rfl, by simpa [linksN] using LB.start cs.length, ST0.out⟩
    case round =>
      obtain ⟨k, rs, hgk, hk, rfl, hlb, hst⟩ := hrel
      have HLB := hide hlb
      have HST := hide hst
      have GR := hide (grown_trans (grown_trans g0 g1) hst.grown)
      clear hlb hst
      by_cases hlt : k < cs.length
      · have HLk := H1.out.more GR.out
        obtain ⟨b9, off, rfl⟩ := HLk.addr (by rw [List.length_map]; exact hlt)
        obtain ⟨a0, a1, a2, a3, a4⟩ := HLk.nod k (by rw [List.length_map]; exact hlt)
        have HC := hide (HIN.out cs[k] (List.getElem_mem hlt))
        have HK : Hid (cs[k]? = some cs[k]) := List.getElem?_eq_getElem hlt
        rw [List.getElem_map] at a0 a1 a2 a3 a4
        obtain ⟨C, hC⟩ : ∃ C, C = cs[k] := ⟨_, rfl⟩
        rw [← hC] at a0 a1 a2 a3 a4 HK HC
        clear HLk hC
        obtain ⟨⟨cop, cnam, ⟨ca, cN, cc⟩, cout, ⟨da, dN, dc⟩⟩, cins, cxs, ccs⟩ := C
        simp only [Sl.v] at a0 a1 a2 a3 a4 HC
        obtain ⟨xa, xc, e1, y1, y2, y3⟩ := HC.out.1.form
        obtain ⟨rfl, rfl, rfl⟩ : ca = xa ∧ cN = cins.length ∧ cc = xc := by simpa [Sl.v] using e1
        have hcl := HC.out.2.1
        clear e1
        obtain ⟨wv, hwv⟩ : ∃ wv, wv = wr.alloc (.cells #[.string cop, .string cnam, .slice ca cins.length cc, .string cout, .slice da dN dc] 52) := ⟨_, rfl⟩
        have STV : Hid (LSt w1 wv S Q Bw Br cs.length (linksN cs l (vin.length + its.length) k) rs) := by show LSt _ _ _ _ _ _ _ _ _; rw [hwv]; exact HST.out.new (grown_new _ _)
        go_wp2_with fail
        rw [← hwv]
        clear hwv a0 a1 a2 a3 a4
        go_loopg [31] cins.length (fun g2 j wx => ∃ (t : Nat) (rx : List Sl), g2 = cins.length - t ∧ t ≤ cins.length ∧ j = .int .i64 t ∧ LB cs.length (k * 1048576 + t) (lnkRow l (vin.length + its.length) k (linksN cs l (vin.length + its.length) k) (cins.take t)) ∧ LSt w1 wx S Q Bw Br cs.length (lnkRow l (vin.length + its.length) k (linksN cs l (vin.length + its.length) k) (cins.take t)) rx)
        case atStart => exact ⟨0, rs, rfl, Nat.zero_le _, rfl, by rw [List.take_zero]; exact HLB.out.le (Nat.le_add_right _ _), STV.out⟩
        case round =>
          obtain ⟨t, rx, hg2, ht, rfl, hlb, hst⟩ := hrel
          have HL2 := hide hlb
          have HS2 := hide hst
          have GX := hide (grown_trans (grown_trans g0 g1) hst.grown)
          have GX0 := hide (grown_trans g1 hst.grown)
          clear hlb hst
          by_cases htl : t < cins.length
          · have HVk := HC.out.1.more GX.out
            obtain ⟨vb, vo, rfl⟩ := HVk.addr htl
            have s0 := str_at HVk t htl
            have HX := hide (HC.out.2.2 _ (List.getElem_mem htl))
            have HR := hide (lnkRow_step l (vin.length + its.length) k (linksN cs l (vin.length + its.length) k) cins htl)
            obtain ⟨X, hX⟩ : ∃ X, X = cins[t] := ⟨_, rfl⟩
            rw [← hX] at s0 HX HR
            clear HVk hX
            obtain ⟨p, hp⟩ : ∃ p, p = lnkRow l (vin.length + its.length) k (linksN cs l (vin.length + its.length) k) (cins.take t) := ⟨_, rfl⟩
            rw [← hp] at HL2 HS2 HR
            clear hp
            obtain ⟨W, R⟩ := p
            obtain ⟨D, nD, d1, -, -, d4⟩ := HNU.out.more GX.out
            have D1 := hide d1
            have KX : Hid (keyOf Tryd.prog 9 (.string X) = some (.string X.data.toList)) := key_str (by have := HX.out.1; omega)
            have hpl := pos_lt HX.out.2
            have DA := hide (d4 _ _ (pos_at HX.out.2))
            have LB2 := hide (HL2.out.step (l := l) (k0 := vin.length + its.length) (i := k) (x := X) hlt (by rw [hl] at hpl; omega))
            unfold lnk at HR LB2
            obtain ⟨P, hP⟩ : ∃ P, P = pos l X := ⟨_, rfl⟩
            rw [← hP] at hpl DA HR LB2
            rw [hl] at hpl
            obtain ⟨r0, r1, r2, r3, r4⟩ := gra_cells (g := ⟨nam, ⟨some ⟨b9, off, none⟩, cs.length, nc0⟩, ⟨ia, vin.length, ic⟩, ⟨oa, oN, oc⟩, ⟨ta, its.length, tc⟩⟩) (BX.out wr (GX0.out))
            clear d1 d4 hP
            by_cases hk0 : vin.length + its.length ≤ P
            · rw [if_pos hk0] at HR LB2
              obtain ⟨m, rfl⟩ : ∃ m, P = vin.length + its.length + m := ⟨P - (vin.length + its.length), by omega⟩
              rw [Nat.add_sub_cancel_left] at HR LB2
              have hm : m < cs.length := by omega
              obtain ⟨l1, l2, lb1, lb2⟩ := HL2.out
              have l1 : W.length = cs.length := l1
              have l2 : R.length = cs.length := l2
              have hs := HS2.out
              obtain ⟨c0, c1⟩ := hs.lk.own.at (k := k) (by rw [l1]; exact hlt)
              obtain ⟨x0, x1⟩ := links_cells hs.box
              have hwb : 0 ≤ W.getD k 0 ∧ W.getD k 0 ≤ 4294967296 := by
                have := lb1 _ (getD_mem_or W k (by rw [l1]; exact hlt))
                omega
              have HI := hide (hs.inc k (W.getD k 0 + 1))
              obtain ⟨Wk, hWk⟩ : ∃ x, x = W.getD k 0 := ⟨_, rfl⟩
              simp only [← hWk] at c0 hwb HI HR LB2
              obtain ⟨hw1, hw2⟩ := hwb
              have DD : Hid (∀ cc : Int, cc = ((vin.length + its.length + m : Nat) : Int) → ∃ d : Int, cc - (vin.length : Int) = d ∧ d - (its.length : Int) = (m : Int) ∧ 0 ≤ d ∧ d ≤ 4194304 ∧ 0 ≤ cc ∧ cc ≤ 8388608) := fun cc h => ⟨cc - vin.length, rfl, by omega, by omega, by omega, by omega, by omega⟩
              clear hs lb1 lb2 hWk
              go_wp2_with (at_lookup; refine wpList_lookup_own_int _ rfl (.tmp 35) (.tmp 36) 83 rfl 9 3 .i64 strKeyed Tryd.underlying83 Tryd.underlying3 (zeroInt _) b nD D rfl D1.out (.string X) (.string X.data.toList) rfl KX.out ?_; intro cc hat hwc; obtain ⟨dd, hd1, hd2, hd3, hd4, hd5, hd6⟩ := DD.out cc (by have h := hat.symm.trans DA.out; simpa using h); clear hat hwc)
              clear c0 c1 x0 x1 r0 r1 r2 r3 r4 s0 hd1 hd2
              generalize wr.setCell ⟨Bw, k, none⟩ (.int .i64 (Wk + 1)) = wI at HI ⊢
              have hI := HI.out
              obtain ⟨-, y1⟩ := links_cells hI.box
              have HO := hide (hI.lk.each m (by rw [l2]; exact hm))
              have hca := World.ownsRow.cellAt hI.lk.row m (by rw [l2]; omega)
              have hfz := World.ownsRow.frozenAt hI.lk.row m
              have hrx : rx.length = R.length := hI.lk.len
              have hgl : rx.getD m nilS = rx[m]'(by omega) := by rw [List.getD, List.getElem?_eq_getElem]; rfl
              rw [List.getElem?_map, List.getElem?_eq_getElem (by omega), ← hgl] at hca
              have hrl : (R.getD m []).length ≤ 4294967296 := by
                have := (HL2.out.b2 (R.getD m []) (by rw [List.getD, List.getElem?_eq_getElem (by omega)]; exact List.getElem_mem _)).1
                omega
              have KS : Hid (∀ wx, wI.grownBy wx (rx.getD m nilS).v.ownBlock → wx.cell? ⟨Q, 1, none⟩ = some (.slice (some ⟨Br, 0, none⟩) cs.length cs.length) ∧ wx.cell? ⟨Br, m, none⟩ = some (.slice (rx.getD m nilS).a (rx.getD m nilS).n (rx.getD m nilS).c) ∧ wx.frozen? ⟨Br, m, none⟩ = false) := fun wx hx => by
                have k1 : wx.heap[Q]? = wI.heap[Q]? := hx.block Q (by have := hI.low; have := hI.size; omega) (fun e => by have := hI.high m Q e.symm; have := hI.low; omega)
                have k2 : wx.heap[Br]? = wI.heap[Br]? := hx.block Br (World.ownsRow.lt hI.lk.row Br rfl).2 (fun e => (hI.lk.apart m (by rw [l2]; exact hm) Br e.symm).2.1 rfl)
                exact ⟨(World.cell?_of_block k1).trans y1, (World.cell?_of_block k2).trans hca, (World.frozen?_of_block k2).trans hfz⟩
              obtain ⟨⟨sa, sn, sc⟩, hsl⟩ : ∃ s, s = rx.getD m nilS := ⟨_, rfl⟩
              have HSL := hide hsl
              rw [← hsl] at HO KS hca
              obtain ⟨sa', sc', hsv⟩ := own_form HO.out.1
              obtain ⟨rfl, rfl, rfl⟩ : sa = sa' ∧ sn = (R.getD m []).length ∧ sc = sc' := by simpa [Sl.v] using hsv
              obtain ⟨RM, hRM⟩ : ∃ x, x = R.getD m [] := ⟨_, rfl⟩
              have HRM := hide hRM
              simp only [← hRM] at HO KS hca hrl HR LB2 HSL
              simp only [Sl.v] at HO KS hca
              have hm0 : (0 : Int) ≤ (m : Int) := Int.natCast_nonneg _
              have hm1 : (m : Int) < (cs.length : Int) := by omega
              have hbs : w1.heap.size ≤ wI.heap.size := hI.grown.size
              have HS1 := hide l2
              clear hsl hsv hRM hgl hI l1 l2
              obtain ⟨ka1, ka2, ka3⟩ := KS.out (wI.alloc (.cells #[.int .i64 (k : Int)] 3)) (grown_allocr (World.grownBy.refl _ _) _)
              have OW : Hid (∀ o, ((wI.alloc o).drew).ownsRow w1.heap.size 3 1 (.slice sa RM.length sc) RM.length (RM.map (Value.int .i64))) := fun o => (HO.out.1.alloc _).drew
              have GA : Hid (∀ o row, wI.grownBy (wI.alloc o).drew row) := fun o row => grown_drewr (grown_allocr (World.grownBy.refl _ _) _)
              have AP : Hid (∀ (w8 : World) (gg cap : Nat), ((wI.alloc (.cells #[.int .i64 (k : Int)] 3)).drew).grownBy w8 (Value.slice sa RM.length sc).ownBlock → w8.ownsRow w1.heap.size 3 1 (.slice (some ⟨gg, 0, none⟩) (RM.length + 1) cap) (RM.length + 1) (RM.map (Value.int .i64) ++ [.int .i64 (k : Int)]) → ((Value.slice sa RM.length sc).ownBlock = some gg ∨ gg = wI.heap.size + 1) →
                  LSt w1 (w8.setCell ⟨Br, m, none⟩ (.slice (some ⟨gg, 0, none⟩) (RM.length + 1) cap)) S Q Bw Br cs.length (W.set k (Wk + 1), R.set m (RM ++ [(k : Int)])) (rx.set m ⟨some ⟨gg, 0, none⟩, RM.length + 1, cap⟩)) := by
                intro w8 gg cap hg ho hat
                have h := HI.out.new (GA.out (.cells #[.int .i64 (k : Int)] 3) none)
                have e := HSL.out
                have hf := LSt.app h (m := m) (by have := HS1.out; omega) (v' := ⟨some ⟨gg, 0, none⟩, RM.length + 1, cap⟩) (i := k) (by rw [← e]; exact hg) (by rw [← HRM.out]; exact ho) (by
                  rcases hat with h1 | h1
                  · left
                    rw [← e]
                    exact h1.symm
                  · right
                    rw [h1]
                    show some _ = some _
                    simp) (by omega) (by rw [← HRM.out]; omega)
                rw [← HRM.out] at hf
                exact hf
              go_region_law (refine step_append_lies _ (by rfl) (.tmp 62) (.tmp 64) 40 (by rfl) w1.heap.size 3 i0 (.int .i64 0) 1 8 Tryd.underlying40 hi hz0 hz1 hz2 (by rfl) (by decide) (.slice sa RM.length sc) RM.length (RM.map (Value.int .i64)) (by rfl) (by exact OW.out _) ⟨wI.heap.size, 0, none⟩ 1 1 [.int .i64 (k : Int)] (by rfl) (by rfl) (by exact World.news_of_block (heap_alloc_new wI _)) (by simp [Value.oneCell']) (by omega) (by simp only [maxLen]; omega) (by omega) (by simp; omega) (wI.heap.size + 1) (by simp) ?_; intro gg cap w8 hown8 hgrow hat hlt8; obtain ⟨kb1, kb2, kb3⟩ := KS.out w8 (World.grownBy.trans (GA.out _ _) hgrow))
              all_goals
                have FIN := hide (AP.out w8 gg cap hgrow hown8 hat)
                clear hgrow hown8 hat hlt8 kb1 kb2 kb3 ka1 ka2 ka3 hca hfz y1
                go_wp2_with fail
                go_roundg (cins.length - (t + 1))
                case measure => omega
                case rel => exact ⟨t + 1, _, rfl, by omega, by go_num, by rw [HR.out]; exact LB2.out.le (by omega), by rw [HR.out]; exact FIN.out⟩
            · rw [if_neg hk0] at HR LB2
              go_wp2_with (at_lookup; refine wpList_lookup_own_int _ rfl (.tmp 35) (.tmp 36) 83 rfl 9 3 .i64 strKeyed Tryd.underlying83 Tryd.underlying3 (zeroInt _) b nD D rfl D1.out (.string X) (.string X.data.toList) rfl KX.out ?_; intro cc hat hwc; obtain rfl : cc = (P : Int) := (by have h := hat.symm.trans DA.out; simpa using h); clear hat hwc)
              go_roundg (cins.length - (t + 1))
              case measure => omega
              case rel => exact ⟨t + 1, rx, rfl, by omega, by go_num, by rw [HR.out]; exact LB2.out.le (by omega), by rw [HR.out]; exact HS2.out⟩
          · obtain rfl : t = cins.length := by omega
            rw [List.take_of_length_le (Nat.le_refl _)] at HL2 HS2
            have HE : Hid (linksN cs l (vin.length + its.length) (k + 1) = lnkRow l (vin.length + its.length) k (linksN cs l (vin.length + its.length) k) cins) := by show _ = _; rw [linksN, HK.out]; rfl
            go_wp2_with fail
            go_roundg (cs.length - (k + 1))
            case measure => omega
            case rel => exact ⟨k + 1, rx, rfl, by omega, by go_num, by rw [HE.out]; exact HL2.out.le (by omega), by rw [HE.out]; exact HS2.out⟩
      · obtain rfl : k = cs.length := by omega
        obtain ⟨c0, c1⟩ := links_cells HST.out.box
        have hb := RX.out _ HST.out.grown
        rw [hS0.out] at hb
        obtain ⟨d0, d1⟩ := links_cells hb
        have z0 := frozen_of_row _ _ 0 _ _ hb
        have z1 := frozen_of_row _ _ 1 _ _ hb
        have HB := hide hb
        clear hb
        go_wp2_with fail
        obtain ⟨hX, gX⟩ := store2l (.slice (some ⟨Bw, 0, none⟩) cs.length cs.length) (.slice (some ⟨Br, 0, none⟩) cs.length cs.length) HB.out
        refine bodyPost_ret (ret_links rfl _ _ (w.heap.size + 1) rfl hX) rfl ?_
        have q0 := hS0.out
        have q1 := hS1.out
        exact ⟨Bw, Br, rs, rfl, (HST.out.lk.past (by omega) gX).base_le (by omega), grown_trans_row GR.out gX (fun g e => by injection e with e; omega)⟩
end Go.Proofs.YtmdpeckeliplkaaDoor
