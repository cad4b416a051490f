/- A graph's nodes in the order of work, who reads whose value, and which are outputs: needs.Of, by the walk. -/
import Derived.Test.YtmdpeckeliplkaaDoorLvMkJ
import Derived.Test.YtmdpeckeliplkaaDoorPartJ
import Derived.Test.YtmdpeckeliplkaaDoorGOpenJ
namespace Go.Proofs.YtmdpeckeliplkaaDoor
open Go.RowKit

theorem ndsInfo : (Tryd.prog.info? 63).map (·.size) = some 4 := by kernel_rfl

theorem infoNode : (Tryd.prog.info? 52).map (fun i => (i.zero, i.size, i.bytes)) = some (some (.agg #[.string ⟨#[]⟩, .string ⟨#[]⟩, .slice none 0 0, .string ⟨#[]⟩, .slice none 0 0]), 5, 96) := by kernel_rfl

theorem ret_nds {fn : Func} {p u : Tmp} (h : fn.results = #[.cell p 63, .tmp u]) (tmps : Array Value) (w : World) (B : Nat) (hp : tmps.getD p undef = .pointer (some ⟨B, 0, none⟩)) {a0 a1 a2 a3 : Value}
    (hb : w.heap[B]? = some (.cells #[a0, a1, a2, a3] 63 (0, 0))) : (results fn tmps).run Tryd.prog w = .ok (.tuple #[.agg #[a0, a1, a2, a3], tmps.getD u undef]) w := by
  have hl := run_loadVar_row (P := Tryd.prog) w B _ 63 #[a0, a1, a2, a3] (0, 0) _ hb Tryd.underlying63 rfl (by rw [ndsInfo]; rfl)
  rw [results_cell_tmp h, hp]
  simp [asAddr, hl, Result.andThen]

theorem Made5.start {w1 wx : World} {Q Bl Ba Bb Bo n : Nat} {M1 M2 M5 : Array Value} (h : Made5 w1 wx Q Bl Ba Bb Bo n M1 M2 M5) (hn : n ≤ 1048576) (e1 : M1.toList = List.replicate n (.bool false)) (e2 : M2.toList = List.replicate n (.slice none 0 0)) (e5 : M5.size = n * 5) (ms : List Nod) :
    OS w1 (wx.alloc (.map #[] 0)) Q Bl Ba Bb Bo wx.heap.size n ms 0 (List.replicate (n + n) []) (List.replicate (n + n) nilS) [] (List.replicate n false) := by
  have g := grown_new wx (.map #[] 0)
  have s1 : M1.size = n := by rw [← Array.length_toList, e1, List.length_replicate]
  have s2 : M2.size = n := by rw [← Array.length_toList, e2, List.length_replicate]
  have up : ∀ {i : Nat} {o : Obj}, wx.heap[i]? = some o → (wx.alloc (.map #[] 0)).heap[i]? = some o := fun {i o} hi => (g.block i (heap_lt hi) (by simp)).trans hi
  have nd : ∀ k, (List.replicate (n + n) nilS).getD k nilS = nilS := fun k => by
    rw [List.getD, List.getElem?_replicate]
    split <;> rfl
  have rd : ∀ k, (List.replicate (n + n) ([] : List Int)).getD k [] = [] := fun k => by
    rw [List.getD, List.getElem?_replicate]
    split <;> rfl
  refine ⟨grown_trans h.grown g, up h.box, ⟨M5, up h.h1, e5, fun j hj => by omega⟩, ⟨?_, ?_, by simp, fun k hk => ?_, fun k hk g e => ?_, h.ne⟩, ?_, nums_nil wx, h.l1, h.grown.size⟩
  · refine ⟨by simp, Or.inr ⟨Ba, n, M2, rfl, h.l2, up h.h2, Nat.le_refl _, by simp only [maxLen]; omega, by omega, ?_⟩⟩
    rw [e2, Nat.mul_one, List.take_of_length_le (by simp), List.take_replicate, List.map_replicate, Nat.min_eq_left (by omega)]
  · refine ⟨by simp, Or.inr ⟨Bb, n, M2, rfl, h.l3, up h.h3, Nat.le_refl _, by simp only [maxLen]; omega, by omega, ?_⟩⟩
    rw [e2, Nat.mul_one, List.take_of_length_le (by simp), List.drop_replicate, List.map_replicate, show n + n - n = n by omega]
  · rw [nd, rd]
    exact ⟨World.ownsRow_nil _ _ _ _, by simp, by simp⟩
  · rw [nd] at e
    cases e
  · unfold OwnBl
    rw [List.length_replicate]
    refine ⟨by simp, Or.inr ⟨Bo, n, M1, rfl, h.l4, up h.h4, Nat.le_refl _, by simp only [maxLen]; omega, by omega, ?_⟩⟩
    rw [e1, Nat.mul_one, List.take_of_length_le (by simp), List.map_replicate]

theorem run_make0 (w : World) : (Instr.makeMap 83 none).run Tryd.prog w = .ok (.map (some w.heap.size)) (w.alloc (.map #[] 0)) := by
  simp [Instr.makeMap, Result.andThen]

/-- What needs.Of answers of a graph that has an order. -/
structure NdsOk (w : World) (Bl Ba Bb Bo n : Nat) (ns : List Nc) (rs : List Sl) (bs : List Bool) : Prop where
  nodes : NL w Bl n (ns.map (·.n)) n
  reads : RdL w Ba n rs (needN ns n)
  readers : RdL w Bb n (rs.drop n) ((needN ns n).drop n)
  bits : ∀ k, k < n → w.cell? ⟨Bo, k, none⟩ = some (.bool (bs.getD k false))

theorem NdsOk.more {w w' : World} {Bl Ba Bb Bo n : Nat} {ns : List Nc} {rs : List Sl} {bs : List Bool} (h : NdsOk w Bl Ba Bb Bo n ns rs bs) (hg : w.grownBy w' none) : NdsOk w' Bl Ba Bb Bo n ns rs bs :=
  ⟨h.nodes.of_block fun o ho => (hg.block Bl (heap_lt ho) (by simp)).trans ho, h.reads.more hg, h.readers.more hg, fun k hk => (World.cell?_of_block (hg.block Bo (World.block_lt_of_cell? w _ (h.bits k hk)) (by simp))).trans (h.bits k hk)⟩

theorem drop_getD {α : Type} (l : List α) (n k : Nat) (d : α) : (l.drop n).getD k d = l.getD (n + k) d := by
  simp only [List.getD, List.getElem?_drop]

theorem OS.ok {w1 wr : World} {Q Bl Ba Bb Bo b n : Nat} {ns : List Nc} {rx : List Sl} {l : List ByteArray} {bs : List Bool} (h : OS w1 wr Q Bl Ba Bb Bo b n (ns.map (·.n)) n (needN ns n) rx l bs) (hb : bs.length = n) : NdsOk wr Bl Ba Bb Bo n ns rx bs :=
  ⟨h.nodes, ⟨fun k hk => (h.ll.rdA hk).1, fun k hk => (h.ll.each k (by omega)).ints⟩, ⟨fun k hk => by rw [drop_getD]; exact (h.ll.rdB hk).1, fun k hk => by rw [drop_getD, drop_getD]; exact (h.ll.each (n + k) (by omega)).ints⟩, fun k hk => (h.bits.at (getD_some (by omega))).1⟩

theorem OS.ok2 {w1 wr w' : World} {Q Bl Ba Bb Bo b n B : Nat} {ns : List Nc} {rx : List Sl} {l : List ByteArray} {bs : List Bool} (h : OS w1 wr Q Bl Ba Bb Bo b n (ns.map (·.n)) n (needN ns n) rx l bs) (hb : bs.length = n) (hg : wr.grownBy w' (some B)) (hB : B < w1.heap.size) : NdsOk w' Bl Ba Bb Bo n ns rx bs := by
  have l1 := (World.ownsRow.lt h.ll.rowA Ba rfl).1
  have l2 := (World.ownsRow.lt h.ll.rowB Bb rfl).1
  have l3 := h.bits.lt.1
  have l4 := h.lB
  have ll : LL w' w1.heap.size Ba Bb n (needN ns n) rx := h.ll.kept hg (by simp; omega) (by simp; omega) (fun k hk => some_or fun g e e2 => by injection e2 with e2; have := ((h.ll.each k hk).1.lt g e).1; omega)
  have bo : OwnBl w' w1.heap.size Bo bs := World.ownsRow.kept h.bits hg (Or.inr (by simp [Value.ownBlock]; omega))
  exact ⟨h.nodes.of_block fun o ho => (hg.block Bl (heap_lt ho) (by simp; omega)).trans ho, ⟨fun k hk => (ll.rdA hk).1, fun k hk => (ll.each k (by omega)).ints⟩, ⟨fun k hk => by rw [drop_getD]; exact (ll.rdB hk).1, fun k hk => by rw [drop_getD, drop_getD]; exact (ll.each (n + k) (by omega)).ints⟩, fun k hk => (bo.at (getD_some (by omega))).1⟩

/-- How needs.Of ends. -/
def Ofs (cs : List Nc) (vin vout : List (Val × List Int)) (its : List (Nam × List Int × List Int)) (w : World) (e : Ending) (w' : World) : Prop :=
  w.grownBy w' none ∧ (((orderR cs vin vout its).2 ≠ 0 ∧ e = .returned (.tuple #[.agg #[.slice none 0 0, .slice none 0 0, .slice none 0 0, .slice none 0 0], .int .i64 (orderR cs vin vout its).2])) ∨
    ((orderR cs vin vout its).2 = 0 ∧ ∃ (Bl Ba Bb Bo : Nat) (rs : List Sl), e = .returned (.tuple #[.agg #[.slice (some ⟨Bl, 0, none⟩) cs.length cs.length, .slice (some ⟨Ba, 0, none⟩) cs.length cs.length, .slice (some ⟨Bb, 0, none⟩) cs.length cs.length, .slice (some ⟨Bo, 0, none⟩) cs.length cs.length], .int .i64 0]) ∧
      NdsOk w' Bl Ba Bb Bo cs.length (inOrd cs (lineF cs vin its)) rs (outN (outsN (inOrd cs (lineF cs vin its))) (onames vout))))

set_option maxRecDepth 100000 in
set_option maxHeartbeats 12800000 in
theorem of_any (g : Gra) (cs : List Nc) (vin vout : List (Val × List Int)) (its : List (Nam × List Int × List Int)) (w : World) (hl : Laid w) (hg : GraphOk w g cs vin vout its) :
    Calls Tryd.prog 22 #[gval g] w fun e w' => Ofs cs vin vout its w e w' := by
  obtain ⟨i1, hi1, hb0, hb1, hb2⟩ := info_parts infoBool
  obtain ⟨i2, hi2, hc0, hc1, hc2⟩ := info_parts infoInts
  obtain ⟨i5, hi5, hn0, hn1, hn2⟩ := info_parts infoNode
  obtain ⟨f1, f2, f3, f4⟩ := hg.base.few
  have e1 : g.nv.n = cs.length := by obtain ⟨_, _, e, -⟩ := hg.base.nodes.form; rw [List.length_map] at e; simp only [Sl.v, Value.slice.injEq] at e; exact e.2.1
  have e3 : g.ov.n = vout.length := by obtain ⟨_, _, e, -⟩ := hg.base.outs.form; rw [List.length_map] at e; simp only [Sl.v, Value.slice.injEq] at e; exact e.2.1
  have HOR := hide (fun (wx : World) (hx : w.grownBy wx none) => order_any g cs vin vout its wx (hl.more hx) (hg.more hx))
  have HG := hide hg
  have HOK := hide (fun (h : (orderR cs vin vout its).2 = 0) => orderR_ok h)
  have HLL := hide (fun (h : (orderR cs vin vout its).2 = 0) => line_law (fun c hc => (hg.is c hc).1) (fun c hc x hx => by
    have hfo := (orderR_ok h).2.2.2.1
    unfold foundF at hfo
    simp only [Bool.and_eq_true, List.all_eq_true] at hfo
    have := hfo.2 c hc
    unfold allF at this
    rw [List.all_eq_true] at this
    exact this x hx))
  obtain ⟨nam, ⟨na0, nn0, nc0⟩, ⟨ia, iN, ic⟩, ⟨oa, oN, oc⟩, ⟨ta, tN, tc⟩⟩ := g
  have e1 : nn0 = cs.length := e1
  have e3 : oN = vout.length := e3
  subst e1
  subst e3
  clear hl hg
  unfold gval at HOR ⊢
  simp only at HOR ⊢
  obtain ⟨w0, hw0⟩ : ∃ w0, w0 = (w.alloc (.cells #[.string nam, .slice na0 cs.length nc0, .slice ia iN ic, .slice oa vout.length oc, .slice ta tN tc] 26)).alloc (.cells #[.slice none 0 0, .slice none 0 0, .slice none 0 0, .slice none 0 0] 63) := ⟨_, rfl⟩
  have g0 : w.grownBy w0 none := by rw [hw0]; exact grown_trans (grown_new _ _) (grown_new _ _)
  have b0 := two_boxes w (.cells #[.string nam, .slice na0 cs.length nc0, .slice ia iN ic, .slice oa vout.length oc, .slice ta tN tc] 26) (.cells #[.slice none 0 0, .slice none 0 0, .slice none 0 0, .slice none 0 0] 63)
  rw [← hw0] at b0
  have BX : Hid (∀ wx, w0.grownBy wx none → wx.heap[w.heap.size]? = some (.cells #[.string nam, .slice na0 cs.length nc0, .slice ia iN ic, .slice oa vout.length oc, .slice ta tN tc] 26 (0, 0))) := fun wx hx => box_kept b0.1 hx
  have BR : Hid (∀ wx, w0.grownBy wx none → wx.heap[w.heap.size + 1]? = some (.cells #[.slice none 0 0, .slice none 0 0, .slice none 0 0, .slice none 0 0] 63 (0, 0))) := fun wx hx => box_kept b0.2 hx
  have HSz : Hid (w0.heap.size = w.heap.size + 1 + 1) := by show _ = _; rw [hw0]; simp
  clear b0
  obtain ⟨r0, r1, r2, r3, r4⟩ := gra_cells (g := ⟨nam, ⟨na0, cs.length, nc0⟩, ⟨ia, iN, ic⟩, ⟨oa, vout.length, oc⟩, ⟨ta, tN, tc⟩⟩) (BX.out w0 (grown_refl _))
  rw [hw0] at r0 r1 r2 r3 r4
  go_enter Tryd.func22, Tryd.ntmps22
  go_wp2_with fail
  rw [← hw0]
  clear hw0 r0 r1 r2 r3 r4
  refine (HOR.out w0 g0).mono ?_
  rintro e w1 ⟨⟨ua, un, uc⟩, rfl, ho, hg1⟩
  obtain ⟨ua', uc', hov⟩ := own_form ho.1
  obtain ⟨rfl, rfl, rfl⟩ : ua = ua' ∧ un = (orderR cs vin vout its).1.length ∧ uc = uc' := by simpa [Sl.v] using hov
  simp only [Sl.v] at ho ⊢
  by_cases hz : (orderR cs vin vout its).2 = 0
  · obtain ⟨k1, k2, k3, k4, k5⟩ := HOK.out hz
    obtain ⟨m1, m2, -⟩ := HLL.out hz
    have HZ := hide hz
    rw [hz]
    have HN : Hid (∀ k (hk : k < (inOrd cs (lineF cs vin its)).length), inL (inOrd cs (lineF cs vin its))[k].n.out (outsN ((inOrd cs (lineF cs vin its)).take k)) = false) := fun k hk => inOrd_unlike k3 m1 m2 hk
    have HM := hide (inOrd_mem (cs := cs) m2)
    have HLn : Hid ((inOrd cs (lineF cs vin its)).length = cs.length) := by show _ = _; rw [inOrd_len]; exact k2
    have HAT : Hid (∀ k (hk : k < (lineF cs vin its).length) (hk2 : k < (inOrd cs (lineF cs vin its)).length), (inOrd cs (lineF cs vin its))[k] = cs.getD ((lineF cs vin its)[k]).toNat noNc) := fun k hk hk2 => by simp [inOrd]
    rw [k1] at ho ⊢
    obtain ⟨L, hL⟩ : ∃ L, L = lineF cs vin its := ⟨_, rfl⟩
    have hEND : Hid (∀ e w', (w.grownBy w' none ∧ ∃ (Bl Ba Bb Bo : Nat) (rs : List Sl), e = .returned (.tuple #[.agg #[.slice (some ⟨Bl, 0, none⟩) cs.length cs.length, .slice (some ⟨Ba, 0, none⟩) cs.length cs.length, .slice (some ⟨Bb, 0, none⟩) cs.length cs.length, .slice (some ⟨Bo, 0, none⟩) cs.length cs.length], .int .i64 0]) ∧ NdsOk w' Bl Ba Bb Bo cs.length (inOrd cs L) rs (outN (outsN (inOrd cs L)) (onames vout))) → Ofs cs vin vout its w e w') := fun e w' h => ⟨h.1, Or.inr ⟨HZ.out, by rw [← hL]; exact h.2⟩⟩
    rw [← hL] at HN HM HLn HAT ho k2 m2 ⊢
    obtain ⟨ns, hns⟩ : ∃ ns, ns = inOrd cs L := ⟨_, rfl⟩
    rw [← hns] at HN HM HLn HAT hEND
    have HI := hide ho.ints
    have HMR := hide m2
    clear hz k1 k3 k4 m1 ho hL hov HLL HOK HOR
    have HL2 := hide k2
    have HNS := hide hns
    have mk1 : ∀ W : World, (Instr.makeSlice 35 (.int .i64 (cs.length : Int)) (.int .i64 (cs.length : Int))).run Tryd.prog W = .ok (.slice (some ⟨W.heap.size, 0, none⟩) cs.length cs.length) (W.alloc (.cells (madeCells (Value.bool false).cells (((cs.length : Nat) : Int).toNat * i1.size)) 4)) := fun W => by
      have h := Go.run_make (P := Tryd.prog) W 35 4 i1 (.bool false) Tryd.underlying35 hi1 hb0 .i64 .i64 (cs.length : Int) (cs.length : Int) (by omega) (by omega) (by rw [hb2]; omega) (by omega)
      simpa using h
    have mk2 : ∀ W : World, (Instr.makeSlice 61 (.int .i64 (cs.length : Int)) (.int .i64 (cs.length : Int))).run Tryd.prog W = .ok (.slice (some ⟨W.heap.size, 0, none⟩) cs.length cs.length) (W.alloc (.cells (madeCells (Value.slice none 0 0).cells (((cs.length : Nat) : Int).toNat * i2.size)) 40)) := fun W => by
      have h := Go.run_make (P := Tryd.prog) W 61 40 i2 (.slice none 0 0) Tryd.underlying61 hi2 hc0 .i64 .i64 (cs.length : Int) (cs.length : Int) (by omega) (by omega) (by rw [hc2]; omega) (by omega)
      simpa using h
    have mk5 : ∀ W : World, (Instr.makeSlice 22 (.int .i64 (cs.length : Int)) (.int .i64 (cs.length : Int))).run Tryd.prog W = .ok (.slice (some ⟨W.heap.size, 0, none⟩) cs.length cs.length) (W.alloc (.cells (madeCells (Value.agg #[.string ⟨#[]⟩, .string ⟨#[]⟩, .slice none 0 0, .string ⟨#[]⟩, .slice none 0 0]).cells (((cs.length : Nat) : Int).toNat * i5.size)) 52)) := fun W => by
      have h := Go.run_make (P := Tryd.prog) W 22 52 i5 (.agg #[.string ⟨#[]⟩, .string ⟨#[]⟩, .slice none 0 0, .string ⟨#[]⟩, .slice none 0 0]) Tryd.underlying22 hi5 hn0 .i64 .i64 (cs.length : Int) (cs.length : Int) (by omega) (by omega) (by rw [hn2]; omega) (by omega)
      simpa using h
    obtain ⟨M1, hM1⟩ : ∃ M, M = madeCells (Value.bool false).cells (((cs.length : Nat) : Int).toNat * i1.size) := ⟨_, rfl⟩
    obtain ⟨M2, hM2⟩ : ∃ M, M = madeCells (Value.slice none 0 0).cells (((cs.length : Nat) : Int).toNat * i2.size) := ⟨_, rfl⟩
    obtain ⟨M5, hM5⟩ : ∃ M, M = madeCells (Value.agg #[.string ⟨#[]⟩, .string ⟨#[]⟩, .slice none 0 0, .string ⟨#[]⟩, .slice none 0 0]).cells (((cs.length : Nat) : Int).toNat * i5.size) := ⟨_, rfl⟩
    have E1 : Hid (M1.toList = List.replicate cs.length (.bool false)) := by show _ = _; rw [hM1]; exact made_bool hb1
    have E2 : Hid (M2.toList = List.replicate cs.length (.slice none 0 0)) := by show _ = _; rw [hM2]; exact made_nils hc1
    have E5 : Hid (M5.size = cs.length * 5) := by show _ = _; rw [hM5, hn1]; simp [madeCells]
    rw [← hM1] at mk1
    rw [← hM2] at mk2
    rw [← hM5] at mk5
    clear hM1 hM2 hM5 hi1 hi2 hi5 hb0 hb1 hb2 hc0 hc1 hc2 hn0 hn1 hn2
    rw [k2] at HI ⊢
    clear k2 hns
    go_wp2_with fail
    go_cut [7] from 26 to 34 (fun p wx => ∃ (Q Bl Ba Bb Bo : Nat), p = .pointer (some ⟨Q, 0, none⟩) ∧ Made5 w1 wx Q Bl Ba Bb Bo cs.length M1 M2 M5)
    case first =>
      clear HN HM HLn HAT hEND HI HMR HL2 HNS BX BR HSz HG
      have R := fun (Qf : Exit → Act → World → Prop) (a : Act) h1 h2 h3 h4 => region5 (id := 5) (w := w1) (M1 := M1) (M2 := M2) (M5 := M5) (n := cs.length) (a := a) (Qf := Qf) h1 h2 h3 mk1 mk2 mk5 h4
      unfold opsN on0 on1 on2 on3 on4 on5 on6 on7 on8 on9 on10 at R
      refine R _ _ ?_ ?_ ?_ ?_
      · intro c b i v w h
        exact h
      · exact Nat.le_of_ble_eq_true rfl
      · rfl
      · intro B1 B2 B3 B4 B5 w' hmd
        simp only [Act.put, List.setIfInBounds_toArray, List.set_cons_succ, List.set_cons_zero]
        have HMD := hide hmd
        clear hmd R mk1 mk2 mk5
        go_wp2_with fail
        go_meet
        exact ⟨_, _, _, _, _, rfl, HMD.out⟩
    case rest =>
      obtain ⟨Q, Bl, Ba, Bb, Bo, rfl, hmd⟩ := hcut
      have ST := hide (hmd.start (by omega) E1.out E2.out E5.out (ns.map (·.n)))
      have mkm := run_make0 wc
      clear hmd mk1 mk2 mk5
      go_wp2_with fail
      obtain ⟨b, hb⟩ : ∃ b, b = wc.heap.size := ⟨_, rfl⟩
      rw [← hb] at ST ⊢
      clear mkm hb
      generalize wc.alloc (.map #[] 0) = w2 at ST ⊢
      have g01 : Hid (w.grownBy w1 none) := grown_trans g0 hg1
      have HG1 := hide hg1
      clear hg1
      go_loopg [38] cs.length (fun gh i wr => ∃ (k : Nat) (rx : List Sl), gh = cs.length - k ∧ k ≤ cs.length ∧ i = .int .i64 k ∧ OS w1 wr Q Bl Ba Bb Bo b cs.length (ns.map (·.n)) k (needN ns k) rx (outsN (ns.take k)) (List.replicate cs.length false))
      case atStart => exact ⟨0, _, rfl, Nat.zero_le _, rfl, by have h := ST.out; rw [needN, HLn.out]; exact h⟩
      case round =>
        obtain ⟨k, rx, hgk, hk, rfl, hst⟩ := hrel
        have HST := hide hst
        clear hst
        by_cases hlt : k < cs.length
        · have GW := hide (grown_trans g01.out HST.out.grown)
          have GW0 := hide (grown_trans HG1.out HST.out.grown)
          obtain ⟨vb, vo, rfl, s0⟩ := int_at (HI.out.more HST.out.grown) (k := k) (by rw [HL2.out]; exact hlt)
          have hz := HMR.out _ (List.getElem_mem (show k < L.length by rw [HL2.out]; exact hlt))
          have hat := HAT.out k (by rw [HL2.out]; exact hlt) (by rw [HLn.out]; exact hlt)
          obtain ⟨z, hzz⟩ : ∃ z, z = L[k]'(by rw [HL2.out]; exact hlt) := ⟨_, rfl⟩
          rw [← hzz] at s0 hz hat
          obtain ⟨m, rfl⟩ : ∃ m : Nat, z = (m : Int) := ⟨z.toNat, by omega⟩
          rw [Int.toNat_natCast] at hat
          have hm : m < cs.length := by omega
          have hm0 : (0 : Int) ≤ (m : Int) := Int.natCast_nonneg _
          have hm1 : (m : Int) < (cs.length : Int) := by omega
          have hk0 : (0 : Int) ≤ (k : Int) := Int.natCast_nonneg _
          have hk1 : (k : Int) < (cs.length : Int) := by omega
          rw [List.getD, List.getElem?_eq_getElem hm] at hat
          have hat : ns[k]'(by rw [HLn.out]; exact hlt) = cs[m] := hat
          have HNK := HN.out k (by rw [HLn.out]; exact hlt)
          have HRS := hide (needN_step ns (k := k) (by rw [HLn.out]; exact hlt))
          have HKs : Hid ((ns.map (·.n))[k]? = some (cs[m]).n) := by show _ = _; rw [List.getElem?_map, List.getElem?_eq_getElem (by rw [HLn.out]; exact hlt), hat]; rfl
          have HTK : Hid (outsN (ns.take (k + 1)) = outsN (ns.take k) ++ [(cs[m]).n.out]) := by
            show _ = _
            rw [List.take_add_one, List.getElem?_eq_getElem (by rw [HLn.out]; exact hlt), hat]
            simp [outsN]
          rw [hat] at HNK HRS
          have HNK := hide HNK
          have HLk := HG.out.base.nodes.more GW.out
          obtain ⟨b9, off, hna⟩ := HLk.addr (k := m) (by rw [List.length_map]; exact hm)
          have hna : na0 = some ⟨b9, off, none⟩ := hna
          subst hna
          obtain ⟨a0, a1, a2, a3, a4⟩ := HLk.nod m (by rw [List.length_map]; exact hm)
          have HNI := hide (HG.out.base.node cs[m] (List.getElem_mem hm))
          have HNI2 := hide (HG.out.is cs[m] (List.getElem_mem hm))
          have HCV : Hid (cs[m].n.out.size ≤ 1048576) := HG.out.vs _ (by unfold vnames; exact List.mem_append_right _ (List.mem_map_of_mem (List.mem_map_of_mem (List.getElem_mem hm))))
          rw [List.getElem_map] at a0 a1 a2 a3 a4
          have HNBk := hide (needN_nb ns (fun c hc => (HG.out.is c (HM.out c hc)).1) k (by rw [HLn.out]; exact hk))
          rw [HLn.out] at HNBk HRS
          obtain ⟨C, hC⟩ : ∃ C, C = cs[m] := ⟨_, rfl⟩
          rw [← hC] at a0 a1 a2 a3 a4 HNI HNI2 HKs HTK HNK HRS HCV
          clear HLk hC hat hz hzz
          obtain ⟨⟨cop, cnam, ⟨ca, cN, cc⟩, cout, ⟨da, dN, dc⟩⟩, cins, cxs, ccs⟩ := C
          simp only at a0 a1 a2 a3 a4 HNI HNI2 HKs HTK HNK HRS HCV
          obtain ⟨xa, xc, e1, y1, y2, y3⟩ := HNI.out.ins.form
          obtain ⟨rfl, rfl, rfl⟩ : ca = xa ∧ cN = cins.length ∧ cc = xc := by simpa [Sl.v] using e1
          have hcl := HNI2.out.1
          obtain ⟨q0, q1, q2, q3⟩ := nds_cells HST.out.box
          obtain ⟨r0, r1, r2, r3, r4⟩ := gra_cells (g := ⟨nam, ⟨some ⟨b9, off, none⟩, cs.length, nc0⟩, ⟨ia, iN, ic⟩, ⟨oa, vout.length, oc⟩, ⟨ta, tN, tc⟩⟩) (BX.out wr GW0.out)
          obtain ⟨v0, c0, z0⟩ := HST.out.nodes.cell hlt (t := 0) (by omega)
          obtain ⟨v1, c1, z1⟩ := HST.out.nodes.cell hlt (t := 1) (by omega)
          obtain ⟨v2, c2, z2⟩ := HST.out.nodes.cell hlt (t := 2) (by omega)
          obtain ⟨v3, c3, z3⟩ := HST.out.nodes.cell hlt (t := 3) (by omega)
          obtain ⟨v4, c4, z4⟩ := HST.out.nodes.cell hlt (t := 4) (by omega)
          rw [Nat.add_zero] at c0 z0
          clear e1
          go_wp2_with fail
          go_region
          have PN := HST.out.nodes.put hlt HKs.out
          simp only at PN
          have ST1 : Hid (OS w1 (put5 wr Bl (k * 5) (.string cop) (.string cnam) (.slice ca cins.length cc) (.string cout) (.slice da dN dc)).drew Q Bl Ba Bb Bo b cs.length (ns.map (·.n)) (k + 1) (needN ns k) rx (outsN (ns.take k)) (List.replicate cs.length false)) := by
            show OS _ _ _ _ _ _ _ _ _ _ _ _ _ _ _
            exact (HST.out.node PN.2 PN.1).new (grown_drew (grown_refl _))
          rw [show (((((wr.setCell ⟨Bl, k * 5, none⟩ (.string cop)).setCell ⟨Bl, k * 5 + 1, none⟩ (.string cnam)).setCell ⟨Bl, k * 5 + 2, none⟩ (.slice ca cins.length cc)).setCell ⟨Bl, k * 5 + 3, none⟩ (.string cout)).setCell ⟨Bl, k * 5 + 4, none⟩ (.slice da dN dc)) = put5 wr Bl (k * 5) (.string cop) (.string cnam) (.slice ca cins.length cc) (.string cout) (.slice da dN dc) from rfl]
          generalize (put5 wr Bl (k * 5) (.string cop) (.string cnam) (.slice ca cins.length cc) (.string cout) (.slice da dN dc)).drew = w3 at ST1 ⊢
          clear PN a0 a1 a2 a3 a4 q0 q1 q2 q3 r0 r1 r2 r3 r4 c0 c1 c2 c3 c4 z0 z1 z2 z3 z4 s0 GW GW0 HST
          obtain ⟨q0, q1, q2, q3⟩ := nds_cells ST1.out.box
          have HTL : Hid ((outsN (ns.take k)).length = k) := by show _ = _; rw [outsN_len, List.length_take, HLn.out]; omega
          have RA := hide (read_any Bl Ba Bb Bo cs.length k b w1.heap.size (k * 1048576) (outsN (ns.take k)) (needN ns k) rx ca cc cins w3 ST1.out.grown.size ST1.out.ll HNBk.out (by omega) hlt (by omega) HTL.out (fun wx hx => by
            have hn : NL wx Bl cs.length (ns.map (·.n)) (k + 1) := by
              obtain ⟨cur, hB, hs⟩ := ST1.out.nodes
              exact ⟨cur, hx.cells hB (by decide) (by decide), hs⟩
            exact (hn.at (by omega) HKs.out).2.2.1) (fun wx hx => HNI.out.ins.more (grown_trans g01.out (hx.grown rfl ST1.out.grown))) HNI2.out.2 ST1.out.nums)
          rw [← HRS.out] at RA
          go_wp2_with fail
          refine RA.out.mono ?_
          rintro e w4 ⟨rfl, rx4, hl4, hf4⟩
          have ST2 := hide (ST1.out.read hf4 hl4)
          clear hf4 hl4 q0 q1 q2 q3 RA
          obtain ⟨q0, q1, q2, q3⟩ := nds_cells ST2.out.box
          obtain ⟨t0, t1, t2, t3, t4⟩ := ST2.out.nodes.at (by omega) HKs.out
          simp only at t0 t1 t2 t3 t4
          obtain ⟨D, nD, d1, d2, d3, d4⟩ := ST2.out.nums
          have D1 := hide d1
          have D3 := hide d3
          have hnk : nD ≤ k := by have := HTL.out; omega
          have KX : Hid (keyOf Tryd.prog 9 (.string cout) = some (.string cout.data.toList)) := key_str (by have := HCV.out; omega)
          have HWF : Hid (plainElem (H := Unit) Tryd.prog 3 (.int .i64 (k : Int)) = some (.lit (.int .i64 (k : Int)), [])) := plainElem_int Tryd.underlying3 (by have e : IntKind.i64.min = -9223372036854775808 := (by decide); have e2 : IntKind.i64.max = 9223372036854775807 := (by decide); simp [Lit.wf, e, e2]; omega)
          have D4 := hide d4
          clear d1 d3 d4
          go_wp2_with (at_mapUpdate; refine wpList_mapUpdate_own _ rfl (.tmp 56) (.tmp 62) (.tmp 63) 83 rfl 9 3 strKeyed Tryd.underlying83 (plainElem Tryd.prog 3) b nD D rfl D1.out (by simp only [maxLen]; omega) (.string cout) (.int .i64 (k : Int)) (.string cout.data.toList) rfl rfl KX.out (.lit (.int .i64 (k : Int))) [] HWF.out ?_; intro w5 hown5 hgrow5)
          have ST3 : Hid (OS w1 w5 Q Bl Ba Bb Bo b cs.length (ns.map (·.n)) (k + 1) (needN ns (k + 1)) rx4 (outsN (ns.take (k + 1))) (List.replicate cs.length false)) := by
            show OS _ _ _ _ _ _ _ _ _ _ _ _ _ _ _
            refine ST2.out.put hgrow5 ?_
            rw [HTK.out]
            exact nums_put D1.out.isMap (by have := HTL.out; omega) D3.out D4.out HNK.out (by have e := HTL.out; rw [e]; exact hown5)
          clear hown5 hgrow5
          go_roundg (cs.length - (k + 1))
          case measure => omega
          case rel => exact ⟨k + 1, rx4, rfl, by omega, by go_num, ST3.out⟩
        · obtain rfl : k = cs.length := by omega
          have HS0 : Hid (OS w1 wr Q Bl Ba Bb Bo b cs.length (ns.map (·.n)) cs.length (needN ns cs.length) rx (outsN ns) (outN (outsN ns) ((onames vout).take 0))) := by
            show OS _ _ _ _ _ _ _ _ _ _ _ _ _ _ _
            have h := HST.out
            rw [List.take_of_length_le (by rw [HLn.out]; exact Nat.le_refl _)] at h
            have e : outN (outsN ns) ((onames vout).take 0) = List.replicate cs.length false := by rw [List.take_zero]; unfold outN; rw [outsN_len, HLn.out]; rfl
            rw [e]
            exact h
          have GW0 := hide (grown_trans HG1.out HST.out.grown)
          obtain ⟨r0, r1, r2, r3, r4⟩ := gra_cells (g := ⟨nam, ⟨na0, cs.length, nc0⟩, ⟨ia, iN, ic⟩, ⟨oa, vout.length, oc⟩, ⟨ta, tN, tc⟩⟩) (BX.out wr GW0.out)
          clear HST hgk
          go_wp2_with fail
          clear r0 r1 r2 r3 r4 GW0
          go_loopg [68] vout.length (fun gh i wr => ∃ t : Nat, gh = vout.length - t ∧ t ≤ vout.length ∧ i = .int .i64 t ∧ OS w1 wr Q Bl Ba Bb Bo b cs.length (ns.map (·.n)) cs.length (needN ns cs.length) rx (outsN ns) (outN (outsN ns) ((onames vout).take t)))
          case atStart => exact ⟨0, rfl, Nat.zero_le _, rfl, HS0.out⟩
          case round =>
            obtain ⟨t, hgt, ht, rfl, hst⟩ := hrel
            have HST := hide hst
            clear hst
            by_cases hlt : t < vout.length
            · have GW := hide (grown_trans g01.out HST.out.grown)
              have HLk := HG.out.base.outs.more GW.out
              obtain ⟨b9, off, hna⟩ := HLk.addr (k := t) (by rw [List.length_map]; exact hlt)
              have hna : oa = some ⟨b9, off, none⟩ := hna
              subst hna
              obtain ⟨a0, a1, a2⟩ := HLk.val t (by rw [List.length_map]; exact hlt)
              have HOT := hide (outN_step (outsN ns) (onames vout) (t := t) (by simp [onames]; exact hlt))
              have HOS := hide (HG.out.os ((onames vout)[t]'(by simp [onames]; exact hlt)) (List.getElem_mem _))
              have e9 : (onames vout)[t]'(by simp [onames]; exact hlt) = ((vout.map (fun p : Val × List Int => p.1))[t]'(by rw [List.length_map]; exact hlt)).name := by simp [onames]
              rw [e9] at HOT HOS
              obtain ⟨A, hA⟩ : ∃ A, A = (vout.map (fun p : Val × List Int => p.1))[t]'(by rw [List.length_map]; exact hlt) := ⟨_, rfl⟩
              rw [← hA] at a0 a1 a2 HOT HOS
              clear HLk hA e9
              obtain ⟨X, aty, ⟨ada, adn, adc⟩⟩ := A
              simp only at a0 a1 a2 HOT HOS
              obtain ⟨w3, hw3⟩ : ∃ w3, w3 = wr.alloc (.cells #[.string X, .int .i64 aty, .slice ada adn adc] 42) := ⟨_, rfl⟩
              have S3 : Hid (OS w1 w3 Q Bl Ba Bb Bo b cs.length (ns.map (·.n)) cs.length (needN ns cs.length) rx (outsN ns) (outN (outsN ns) ((onames vout).take t))) := by show OS _ _ _ _ _ _ _ _ _ _ _ _ _ _ _; rw [hw3]; exact HST.out.new (grown_new _ _)
              have bv := heap_alloc_new wr (.cells #[.string X, .int .i64 aty, .slice ada adn adc] 42)
              have x0 : (wr.alloc (.cells #[.string X, .int .i64 aty, .slice ada adn adc] 42)).cell? ⟨wr.heap.size, 0, none⟩ = some (.string X) := (cell_of_row _ _ 0 _ _ (0, 0) bv).trans rfl
              obtain ⟨D, nD, d1, d2, d3, d4⟩ := S3.out.nums
              rw [hw3] at d1
              have D1 := hide d1
              have KX : Hid (keyOf Tryd.prog 9 (.string X) = some (.string X.data.toList)) := key_str (by have := HOS.out; omega)
              have DH := hide (d3 X)
              have DA := hide (fun (h : inL X (outsN ns) = true) => d4 _ _ (pos_at h))
              have PL := hide (fun (h : inL X (outsN ns) = true) => pos_lt h)
              rw [outsN_len, HLn.out] at PL
              clear d1 d3 d4 bv
              cases hin : inL X (outsN ns) with
              | false =>
                have hhas : Maps.has D (.string X.data.toList) = false := DH.out.trans hin
                have E : Hid (outN (outsN ns) ((onames vout).take (t + 1)) = outN (outsN ns) ((onames vout).take t)) := by show _ = _; rw [HOT.out]; unfold outS; rw [hin]; rfl
                clear hin
                go_wp2_with (at_lookup; refine wpList_lookup_own_ok_int _ rfl (.tmp 73) (.tmp 75) 83 rfl 9 3 .i64 strKeyed Tryd.underlying83 Tryd.underlying3 (zeroInt _) b nD D rfl D1.out (.string X) (.string X.data.toList) rfl KX.out ?_; intro cc hat hwc; rw [hhas])
                rw [← hw3]
                clear hw3
                go_roundg (vout.length - (t + 1))
                case measure => omega
                case rel => exact ⟨t + 1, rfl, by omega, by go_num, by rw [E.out]; exact S3.out⟩
              | true =>
                have hhas : Maps.has D (.string X.data.toList) = true := DH.out.trans hin
                have hpl := PL.out hin
                have DA := hide (DA.out hin)
                have E : Hid (outN (outsN ns) ((onames vout).take (t + 1)) = (outN (outsN ns) ((onames vout).take t)).set (pos (outsN ns) X) true) := by show _ = _; rw [HOT.out]; unfold outS; rw [hin]; rfl
                obtain ⟨P, hP⟩ : ∃ P, P = pos (outsN ns) X := ⟨_, rfl⟩
                rw [← hP] at hpl DA E
                have S4 := hide (S3.out.bit P)
                obtain ⟨q0, q1, q2, q3⟩ := nds_cells S3.out.box
                obtain ⟨y0, y1⟩ := S3.out.bits.at (getD_some (l := outN (outsN ns) ((onames vout).take t)) (k := P) (by rw [outN_len, outsN_len, HLn.out]; exact hpl))
                have hp0 : (0 : Int) ≤ (P : Int) := Int.natCast_nonneg _
                have hp1 : (P : Int) < (cs.length : Int) := by omega
                rw [hw3] at q0 q1 q2 q3 y0 y1
                clear hin hP
                go_wp2_with (at_lookup; refine wpList_lookup_own_ok_int _ rfl (.tmp 73) (.tmp 75) 83 rfl 9 3 .i64 strKeyed Tryd.underlying83 Tryd.underlying3 (zeroInt _) b nD D rfl D1.out (.string X) (.string X.data.toList) rfl KX.out ?_; intro cc hat hwc; obtain rfl : cc = (P : Int) := (by have h := hat.symm.trans DA.out; simpa using h); clear hat hwc; rw [hhas])
                rw [← hw3]
                clear hw3
                go_roundg (vout.length - (t + 1))
                case measure => omega
                case rel => exact ⟨t + 1, rfl, by omega, by go_num, by rw [E.out]; exact S4.out⟩
            · obtain rfl : t = vout.length := by omega
              rw [List.take_of_length_le (by simp [onames])] at HST
              have GW0 := hide (grown_trans HG1.out HST.out.grown)
              have hb := BR.out wr GW0.out
              obtain ⟨q0, q1, q2, q3⟩ := nds_cells HST.out.box
              obtain ⟨y0, y1, y2, y3⟩ := nds_cells hb
              have z0 := frozen_of_row _ _ 0 _ _ hb
              have z1 := frozen_of_row _ _ 1 _ _ hb
              have z2 := frozen_of_row _ _ 2 _ _ hb
              have z3 := frozen_of_row _ _ 3 _ _ hb
              have HB := hide hb
              clear hb
              go_wp2_with fail
              obtain ⟨hX, gX⟩ := store4 (.slice (some ⟨Bl, 0, none⟩) cs.length cs.length) (.slice (some ⟨Ba, 0, none⟩) cs.length cs.length) (.slice (some ⟨Bb, 0, none⟩) cs.length cs.length) (.slice (some ⟨Bo, 0, none⟩) cs.length cs.length) HB.out
              refine bodyPost_ret (ret_nds rfl _ _ (w.heap.size + 1) rfl hX) rfl ?_
              have hS0 := HSz.out
              have hG1 := HG1.out.size
              exact hEND.out _ _ ⟨grown_trans_row (grown_trans g01.out HST.out.grown) gX (fun g e => by injection e with e; omega), Bl, Ba, Bb, Bo, rx, rfl, HST.out.ok2 (by rw [outN_len, outsN_len, HLn.out]) gX (by omega)⟩
  · have hb := BR.out w1 hg1
    obtain ⟨y0, y1, y2, y3⟩ := nds_cells hb
    have z0 := frozen_of_row _ _ 0 _ _ hb
    have z1 := frozen_of_row _ _ 1 _ _ hb
    have z2 := frozen_of_row _ _ 2 _ _ hb
    have z3 := frozen_of_row _ _ 3 _ _ hb
    have HB := hide hb
    have HZ : Hid (∀ w', w.grownBy w' none → Ofs cs vin vout its w (.returned (.tuple #[.agg #[.slice none 0 0, .slice none 0 0, .slice none 0 0, .slice none 0 0], .int .i64 (orderR cs vin vout its).2])) w') := fun w' h => ⟨h, Or.inl ⟨hz, rfl⟩⟩
    obtain ⟨OE, hOE⟩ : ∃ OE, OE = (orderR cs vin vout its).2 := ⟨_, rfl⟩
    rw [← hOE] at HZ hz ⊢
    have hzb : (OE != 0) = true := by simpa using hz
    clear hb hz hOE ho hov HLL HOK HOR
    go_wp2_with fail
    obtain ⟨hX, gX⟩ := store4 (.slice none 0 0) (.slice none 0 0) (.slice none 0 0) (.slice none 0 0) HB.out
    refine bodyPost_ret (ret_nds rfl _ _ (w.heap.size + 1) rfl hX) rfl ?_
    exact HZ.out _ (grown_trans_row (grown_trans g0 hg1) gX (fun g e => by injection e with e; omega))
end Go.Proofs.YtmdpeckeliplkaaDoor
