/- GraphStands, by the walk. -/
import Derived.Test.YtflalpchhojenaaDoorGStandPJ
import Derived.Test.YtflalpchhojenaaDoorGCopyJJ
import Derived.Test.YtflalpchhojenaaDoorGRefJ
import Derived.BigQuiet
import Derived.Deep.AppendLies
import Derived.Deep.RegionLawGrows
namespace Go.Proofs.YtflalpchhojenaaDoor
open Go.RowKit

theorem grown_drewN {a b : World} (h : a.grownBy b none) (n : Nat) : a.grownBy (b.drewN n) none := ⟨h.os, h.tape, h.output, h.size, h.block⟩

/-- The copy with other nodes is a graph that comes in. -/
theorem CopiedG.stand_ok {w2 w3 W : World} {g h : Gra} {cs : List Nc} {vin vout : List (Val × List Int)} {its : List (Nam × List Int × List Int)} {ms : List (Nod × Ni)} {vi vo : List (Val × List Int)} {ts : List (Nam × List Int × List Int)} {i0 i1 o0 o1 n0 n1 t0 t1 : Nat} (hc : CopiedG w2 w3 g cs vin vout its h ms vi vo ts i0 i1 o0 o1 n0 n1 t0 t1) (hg : GraphOk w2 g cs vin vout its) {B : Nat} (hgw : w2.grownBy W none) (g3 : w3.grownBy W (some B)) (hB : w3.heap.size ≤ B) {u : Sl} {cs' : List Nc} (hu : IsNods W u.v (cs'.map (·.n))) (hm : ∀ c ∈ cs', c ∈ cs) (hl : cs'.length ≤ 1048576) :
    GraphOk W ⟨h.name, u, h.iv, h.ov, h.tv⟩ cs' vi vo ts := by
  have hk := hc.ok hg
  obtain ⟨f1, f2, f3, f4⟩ := hg.base.few
  have l2 := key_len hc.ki
  have l3 := key_len hc.ko
  have l4 := key_len hc.kt
  have ni : OwnVals W i0 i1 h.iv.v vi := hc.ins.past valFeet g3 (fun g e => by cases e; have := hc.ins.le; omega)
  have no : OwnVals W o0 o1 h.ov.v vo := hc.outs.past valFeet g3 (fun g e => by cases e; have := hc.outs.le; omega)
  have nt : OwnNams W t0 t1 h.tv.v ts := hc.inits.past namFeet g3 (fun g e => by cases e; have := hc.inits.le; omega)
  refine ⟨⟨hu, ni.isL vcells_len (by omega), no.isL vcells_len (by omega), nt.isL mcells_len (by omega), fun c hc' => (hg.base.node c (hm c hc')).more hgw, ni.has, no.has, nt.has, hk.base.short, ⟨hl, by omega, by omega, by omega⟩⟩, fun y hy => ?_, hk.os, fun c hc' => hg.is c (hm c hc')⟩
  unfold vnames at hy
  simp only [List.mem_append] at hy
  rcases hy with (hy | hy) | hy
  · exact hk.vs y (by unfold vnames; simp only [List.mem_append]; exact Or.inl (Or.inl hy))
  · exact hk.vs y (by unfold vnames; simp only [List.mem_append]; exact Or.inl (Or.inr hy))
  · rw [List.map_map] at hy
    obtain ⟨c, hc', rfl⟩ := List.mem_map.1 hy
    exact hg.vs _ (by unfold vnames; simp only [List.mem_append, List.map_map]; exact Or.inr (List.mem_map.2 ⟨c, hm c hc', rfl⟩))

/-- The nodes, as far as they are put. -/
structure SInv (W1 : World) (B : Nat) (nam : ByteArray) (ui uo ut : Sl) (ns : List Nod) (k : Nat) (wr : World) (v : Sl) : Prop where
  box : wr.heap[B]? = some (.cells #[.string nam, .slice v.a v.n v.c, .slice ui.a ui.n ui.c, .slice uo.a uo.n uo.c, .slice ut.a ut.n ut.c] 26 (0, 0))
  own : OwnsL 42 5 ncells wr W1.heap.size v.v (ns.take k)
  grown : W1.grownBy wr (some B)

def SPut (W1 : World) (B : Nat) (nam : ByteArray) (ui uo ut : Sl) (ns : List Nod) (k : Nat) (wx : World) : Prop := ∃ v : Sl, SInv W1 B nam ui uo ut ns k wx v

theorem SInv.step {W1 : World} {B : Nat} {nam : ByteArray} {ui uo ut : Sl} {ns : List Nod} {k : Nat} {wr wA w8 w9 : World} {ea : Option Addr} {ec gg cap : Nat} {A : Nod} (I : SInv W1 B nam ui uo ut ns k wr ⟨ea, k, ec⟩) (hlen : (ns.take k).length = k) (HA : ns[k]? = some A) (hB : B < W1.heap.size) (gA : wr.grownBy wA none)
    (hown8 : w8.ownsRow W1.heap.size 42 5 (.slice (some ⟨gg, 0, none⟩) (k + 1) cap) (k + 1) ((ns.take k).flatMap ncells ++ ncells A)) (hgrow : wA.grownBy w8 (Value.slice ea k ec).ownBlock) (hlo : ∀ g, (Value.slice (some ⟨gg, 0, none⟩) (k + 1) cap).ownBlock = some g → W1.heap.size ≤ g)
    (q1 : w9.heap[B]? = some (.cells #[.string nam, .slice (some ⟨gg, 0, none⟩) (k + 1) cap, .slice ui.a ui.n ui.c, .slice uo.a uo.n uo.c, .slice ut.a ut.n ut.c] 26 (0, 0))) (q2 : w8.grownBy w9 (some B)) : SPut W1 B nam ui uo ut ns (k + 1) w9 := by
  refine ⟨⟨some ⟨gg, 0, none⟩, k + 1, cap⟩, q1, ?_, ?_⟩
  · have o8 : OwnsL 42 5 ncells w8 W1.heap.size (.slice (some ⟨gg, 0, none⟩) (k + 1) cap) (ns.take (k + 1)) := by
      rw [List.take_add_one, HA]
      exact owns_at_row hlen hown8
    exact owns_block o8 (fun b e => q2.block b (World.ownsRow.lt o8 b e).2 (fun e2 => by have := hlo b e; have := Option.some.inj e2; omega))
  · exact grown_same (grown_same_row (grown_same_row I.grown gA (by simp)) hgrow (fun g e => (World.ownsRow.lt I.own g e).1)) q2

set_option maxRecDepth 100000 in
set_option maxHeartbeats 6400000 in
theorem graphStands_walk (g : Gra) (cs : List Nc) (vin vout : List (Val × List Int)) (its : List (Nam × List Int × List Int)) (w : World) (hl : Laid w) (hg : GraphOk w g cs vin vout its) :
    Calls Tryd.prog 6 #[gval g] w fun e w' => e = .returned (.bool true) ∧ Below w.heap.size w w' := by
  obtain ⟨j0, hj, jz0, jz1, jz2⟩ := info_parts infoNode
  have HL := hide hl
  have HG := hide hg
  have LV := hide (fun (wx : World) (hx : w.grownBy wx none) => glive_any wx (hl.more hx))
  have CG := hide (fun (wx : World) (hx : w.grownBy wx none) => copygraph_any g cs vin vout its wx (hg.more hx).base)
  have OA := hide (fun (wx : World) (hx : w.grownBy wx none) => order_any g cs vin vout its wx (hl.more hx) (hg.more hx))
  have SO := hide (stands_order (cs := cs) (vin := vin) (vout := vout) (its := its) (fun c hc => (hg.is c hc).1))
  have OK0 := hide (orderR_ok (cs := cs) (vin := vin) (vout := vout) (its := its))
  have e1 : g.nv.n = cs.length := by obtain ⟨_, _, e, -⟩ := hg.base.nodes.form; rw [List.length_map] at e; simp only [Sl.v, Value.slice.injEq] at e; exact e.2.1
  obtain ⟨f1, f2, f3, f4⟩ := hg.base.few
  clear hg hl
  obtain ⟨OR, hOR⟩ : ∃ OR, OR = orderR cs vin vout its := ⟨_, rfl⟩
  rw [← hOR] at OA SO OK0
  clear hOR
  obtain ⟨OL, OE⟩ := OR
  simp only at OA SO OK0
  obtain ⟨nam, ⟨na0, nn0, nc0⟩, ⟨ia, iN, ic⟩, ⟨oa, oN, oc⟩, ⟨ta, tN, tc⟩⟩ := g
  unfold gval at CG OA ⊢
  simp only at CG OA e1 ⊢
  subst e1
  obtain ⟨w0, hw0⟩ : ∃ w0, w0 = w.alloc (.cells #[.string nam, .slice na0 cs.length nc0, .slice ia iN ic, .slice oa oN oc, .slice ta tN tc] 26) := ⟨_, rfl⟩
  have g0 : w.grownBy w0 none := by rw [hw0]; exact grown_new _ _
  have b0 := heap_alloc_new w (.cells #[.string nam, .slice na0 cs.length nc0, .slice ia iN ic, .slice oa oN oc, .slice ta tN tc] 26)
  rw [← hw0] at b0
  have BX : Hid (∀ wx, w0.grownBy wx none → wx.heap[w.heap.size]? = some (.cells #[.string nam, .slice na0 cs.length nc0, .slice ia iN ic, .slice oa oN oc, .slice ta tN tc] 26 (0, 0))) := fun wx hx => box_kept b0 hx
  clear b0
  obtain ⟨r0, r1, r2, r3, r4⟩ := gra_cells (g := ⟨nam, ⟨na0, cs.length, nc0⟩, ⟨ia, iN, ic⟩, ⟨oa, oN, oc⟩, ⟨ta, tN, tc⟩⟩) (BX.out w0 (grown_refl _))
  rw [hw0] at r0 r1 r2 r3 r4
  go_enter Tryd.func6, Tryd.ntmps6
  go_wp2_with fail
  rw [← hw0]
  clear hw0 r0 r1 r2 r3 r4
  refine (OA.out w0 g0).mono ?_
  rintro e w2 ⟨⟨ua, un, uc⟩, rfl, ho2, hg2⟩
  obtain ⟨ua', uc', hu⟩ := own_form ho2.1
  obtain ⟨rfl, rfl, rfl⟩ : ua = ua' ∧ un = OL.length ∧ uc = uc' := by simpa [Sl.v] using hu
  have HP := hide ho2.ints
  clear hu ho2
  unfold Sl.v at HP ⊢
  simp only at HP ⊢
  by_cases hz : OE = 0
  · subst hz
    obtain ⟨hOL, hLn, -, -, hsm⟩ := OK0.out (by simp)
    obtain ⟨hrg, hso⟩ := SO.out (by simp)
    rw [← hOL] at hrg hso hLn
    have RG := hide hrg
    have HSO := hide hso
    have HLN := hide hLn
    have PL := hide ((putN_len (cs := cs) hrg).trans hLn)
    have PA := hide (putN_at (cs := cs) hrg)
    clear hrg hso SO OK0 hOL hLn
    obtain ⟨r0, r1, r2, r3, r4⟩ := gra_cells (g := ⟨nam, ⟨na0, cs.length, nc0⟩, ⟨ia, iN, ic⟩, ⟨oa, oN, oc⟩, ⟨ta, tN, tc⟩⟩) (BX.out w2 hg2)
    go_wp2_with fail
    clear r0 r1 r2 r3 r4
    have g2 := grown_trans g0 hg2
    refine (CG.out w2 g2).mono ?_
    rintro e w3 ⟨h, ms, vi, vo, ts, i0, i1, o0, o1, n0, n1, t0, t1, rfl, hc⟩
    have HC := hide hc
    have hg3 := hc.grown
    clear hc
    obtain ⟨hnam, ⟨ha0, hn0, hc0⟩, ⟨hia, hiN, hic⟩, ⟨hoa, hoN, hoc⟩, ⟨hta, htN, htc⟩⟩ := h
    obtain ⟨W1, hW1⟩ : ∃ W1, W1 = w3.alloc (.cells #[.string hnam, .slice none 0 0, .slice hia hiN hic, .slice hoa hoN hoc, .slice hta htN htc] 26) := ⟨_, rfl⟩
    have gW1 : w3.grownBy W1 none := by rw [hW1]; exact grown_new _ _
    have b1 := heap_alloc_new w3 (.cells #[.string hnam, .slice none 0 0, .slice hia hiN hic, .slice hoa hoN hoc, .slice hta htN htc] 26)
    rw [← hW1] at b1
    have s1 : W1.heap.size = w3.heap.size + 1 := by rw [hW1]; simp
    have B1 := hide b1
    have S1 := hide s1
    clear b1 s1
    go_wp2_with fail
    rw [← hW1]
    clear hW1
    go_loopw [6] (fun i wr => ∃ (k : Nat) (v : Sl), k ≤ OL.length ∧ i = .int .i64 k ∧ SInv W1 w3.heap.size hnam ⟨hia, hiN, hic⟩ ⟨hoa, hoN, hoc⟩ ⟨hta, htN, htc⟩ ((putN cs OL).map (·.n)) k wr v) (fun i _ => OL.length - (intOf i).toNat)
    case atStart => exact ⟨0, ⟨none, 0, 0⟩, Nat.zero_le _, rfl, ⟨B1.out, by rw [List.take_zero]; exact OwnsL.nil .., ⟨rfl, rfl, rfl, Nat.le_refl _, fun _ _ _ => rfl⟩⟩⟩
    case round =>
      obtain ⟨k, ⟨va, vn, vc⟩, hk, rfl, hinv⟩ := hrel
      have CI := hide hinv
      have gr2 : w2.grownBy wr none := grown_trans_row (grown_trans hg3 gW1) hinv.grown (fun r e => by cases e; exact hg3.size)
      have gr0 := grown_trans hg2 gr2
      have TL : Hid ((((putN cs OL).map (·.n)).take k).length = k) := by show _ = _; have := PL.out; have := HLN.out; rw [List.length_take, List.length_map]; omega
      have hvn : vn = k := by
        obtain ⟨pa, pc, e⟩ := OwnsL.form hinv.own
        simp only [Sl.v, Value.slice.injEq] at e
        exact e.2.1.trans TL.out
      subst hvn
      clear hinv
      obtain ⟨r0, r1, r2, r3, r4⟩ := gra_cells (g := ⟨nam, ⟨na0, cs.length, nc0⟩, ⟨ia, iN, ic⟩, ⟨oa, oN, oc⟩, ⟨ta, tN, tc⟩⟩) (BX.out wr gr0)
      simp only at r1
      clear r0 r2 r3 r4
      by_cases hlt : vn < OL.length
      · have HI := HP.out.more gr2
        obtain ⟨sb, so, rfl, d0⟩ := ints_addrG HI hlt
        have hrz := RG.out (OL.getD vn 0) (getD_mem_or _ _ hlt)
        obtain ⟨q, hq⟩ : ∃ q : Nat, OL.getD vn 0 = (q : Int) := ⟨(OL.getD vn 0).toNat, by omega⟩
        have hqn : q < cs.length := by omega
        have hqL : OL[vn]? = some (q : Int) := by rw [← hq, List.getD, List.getElem?_eq_getElem hlt]; rfl
        have hput : ((putN cs OL).map (·.n))[vn]? = some cs[q].n := by
          rw [List.getElem?_map, PA.out vn, hqL, Option.bind_some, Int.toNat_natCast, List.getElem?_eq_getElem hqn]
          rfl
        have hqn' : q < (cs.map (·.n)).length := by rw [List.length_map]; exact hqn
        have HLk := HG.out.base.nodes.more (grown_trans g0 gr0)
        obtain ⟨nb, no, rfl⟩ := HLk.addr hqn'
        obtain ⟨a0, a1, a2, a3, a4⟩ := HLk.nod q hqn'
        rw [List.getElem_map] at a0 a1 a2 a3 a4
        rw [hq] at d0
        obtain ⟨A, hA⟩ : ∃ A, A = cs[q] := ⟨_, rfl⟩
        rw [← hA] at a0 a1 a2 a3 a4 hput
        have HPT := hide hput
        clear HI HLk hA hput hq hrz hqL
        have hq0 : ¬ ((q : Int) < 0) := by omega
        have hq1 : ¬ ((cs.length : Int) ≤ (q : Int)) := by omega
        have hsr := CI.out.grown.size
        have s1 := S1.out
        have hvs : vn ≤ 1000 := by have := HLN.out; omega
        go_wp2_with fail
        go_quiet (fail)
        obtain ⟨wq, hwq⟩ : ∃ wq, wq = wr.drewN nq := ⟨_, rfl⟩
        have hh : wq.heap = wr.heap := by rw [hwq]; rfl
        have gq : wr.grownBy wq none := by rw [hwq]; exact grown_drewN (grown_refl wr) nq
        rw [← hwq]
        clear hwq
        have CQ : Hid (SInv W1 w3.heap.size hnam ⟨hia, hiN, hic⟩ ⟨hoa, hoN, hoc⟩ ⟨hta, htN, htc⟩ ((putN cs OL).map (·.n)) vn wq ⟨va, vn, vc⟩) := ⟨by rw [hh]; exact CI.out.box, CI.out.own.more gq, grown_same_row CI.out.grown gq (by simp)⟩
        replace r1 := cell_still r1 gq
        replace d0 := cell_still d0 gq
        replace a0 := cell_still a0 gq
        replace a1 := cell_still a1 gq
        replace a2 := cell_still a2 gq
        replace a3 := cell_still a3 gq
        replace a4 := cell_still a4 gq
        have hsr : W1.heap.size ≤ wq.heap.size := by rw [hh]; exact hsr
        clear CI hh
        obtain ⟨c0, c1, c2, c3, c4⟩ := gra_cells (g := ⟨hnam, ⟨va, vn, vc⟩, ⟨hia, hiN, hic⟩, ⟨hoa, hoN, hoc⟩, ⟨hta, htN, htc⟩⟩) CQ.out.box
        simp only at c1
        clear c0 c2 c3 c4
        have OW : Hid (∀ o, (wq.alloc o).ownsRow W1.heap.size 42 5 (.slice va vn vc) vn ((((putN cs OL).map (·.n)).take vn).flatMap ncells)) := fun o => owns_row_at (CQ.out.own.more (grown_new _ _)) TL.out
        have NB : Hid (some w3.heap.size ≠ (Value.slice va vn vc).ownBlock) := fun e => by have := World.ownsRow.lt CQ.out.own w3.heap.size e.symm; omega
        have y1 : w3.heap.size ≠ wq.heap.size := by omega
        have y1' := y1.symm
        have KS : Hid (∀ wx, (wq.alloc (.cells #[.string A.n.op, .string A.n.name, .slice A.n.iv.a A.n.iv.n A.n.iv.c, .string A.n.out, .slice A.n.av.a A.n.av.n A.n.av.c] 42)).grownBy wx (Value.slice va vn vc).ownBlock → wx.heap[w3.heap.size]? = some (.cells #[.string hnam, .slice va vn vc, .slice hia hiN hic, .slice hoa hoN hoc, .slice hta htN htc] 26 (0, 0))) := fun wx hx => (hx.block _ (by simp; omega) NB.out).trans (box_kept CQ.out.box (grown_new _ _))
        have c1A := cell_still c1 (grown_new wq (.cells #[.string A.n.op, .string A.n.name, .slice A.n.iv.a A.n.iv.n A.n.iv.c, .string A.n.out, .slice A.n.av.a A.n.av.n A.n.av.c] 42))
        go_wp2_with fail
        go_region_law (refine step_append_lies _ (by rfl) (.tmp 43) (.tmp 52) 22 (by rfl) W1.heap.size 42 j0 (.agg #[.string ⟨#[]⟩, .string ⟨#[]⟩, .slice none 0 0, .string ⟨#[]⟩, .slice none 0 0]) 5 96 Tryd.underlying22 hj jz0 jz1 jz2 (by rfl) (by decide) (.slice va vn vc) vn ((((putN cs OL).map (·.n)).take vn).flatMap ncells) (by rfl) (by exact OW.out _) ⟨wq.heap.size, 0, none⟩ 1 1 (ncells A.n) (by rfl) (by rfl) (by exact World.news_of_block (heap_alloc_new wq _)) (ncell_one _) (by omega) (by simp only [maxLen]; omega) (by omega) (by simp; omega) (wq.heap.size + 1) (by simp) ?_; intro gg cap w8 hown8 hgrow hat hlt8; have KB := hide (KS.out w8 ⟨hgrow.os, hgrow.tape, hgrow.output, hgrow.size, hgrow.block⟩); obtain ⟨f0, f1', f2', f3', f4'⟩ := gra_frozen KB.out; obtain ⟨c0, c1, c2, c3, c4⟩ := gra_cells (g := ⟨hnam, ⟨va, vn, vc⟩, ⟨hia, hiN, hic⟩, ⟨hoa, hoN, hoc⟩, ⟨hta, htN, htc⟩⟩) KB.out)
        all_goals
          obtain ⟨q1, q2, q3⟩ := put1 (j := 1) (.slice (some ⟨gg, 0, none⟩) (vn + 1) cap) KB.out
          have ST := hide (SInv.step CQ.out TL.out HPT.out (by omega) (grown_drew (grown_new wq (.cells #[.string A.n.op, .string A.n.name, .slice A.n.iv.a A.n.iv.n A.n.iv.c, .string A.n.out, .slice A.n.av.a A.n.av.n A.n.av.c] 42))) hown8 hgrow (fun g e => (World.ownsRow.lt hown8 g e).1) (by simpa using q1) q2)
          clear hown8 hgrow hat hlt8 q1 q2 q3
          go_wp2_with fail
          obtain ⟨v', hst⟩ := ST.out
          go_roundw
          case rel => exact ⟨vn + 1, _, by omega, by go_num, hst⟩
          case measure => simp [intOf]; omega
      · obtain rfl : vn = OL.length := by omega
        have hns : ((putN cs OL).map (·.n)).take OL.length = (putN cs OL).map (·.n) := List.take_of_length_le (by rw [List.length_map, PL.out, HLN.out]; exact Nat.le_refl _)
        have hown := CI.out.own
        rw [hns] at hown
        have gr3 : w3.grownBy wr (some w3.heap.size) := grown_same (grown_any gW1 _) CI.out.grown
        have OKH := HC.out.stand_ok (HG.out.more g2) gr2 gr3 (Nat.le_refl _) (u := ⟨va, OL.length, vc⟩) (cs' := putN cs OL) (hown.isL ncells_len (by rw [List.length_map, PL.out]; omega)) (fun c hc => putN_mem hc) (by rw [PL.out]; omega)
        have EQ : orderR (putN cs OL) vi vo ts = (upF 0 cs.length, 0) := by
          rw [← HSO.out]
          exact SameG.order ⟨rfl, HC.out.ki, HC.out.ko, HC.out.kt⟩
        have OB := hide (order_any _ _ _ _ _ wr (HL.out.more (grown_trans g2 gr2)) OKH)
        rw [EQ] at OB
        unfold gval at OB
        simp only at OB
        clear OKH EQ hown hns r1
        obtain ⟨c0, c1, c2, c3, c4⟩ := gra_cells (g := ⟨hnam, ⟨va, OL.length, vc⟩, ⟨hia, hiN, hic⟩, ⟨hoa, hoN, hoc⟩, ⟨hta, htN, htc⟩⟩) CI.out.box
        simp only at c0 c1 c2 c3 c4
        go_wp2_with fail
        clear c0 c1 c2 c3 c4
        refine OB.out.mono ?_
        rintro e w5 ⟨⟨ma, mn, mc⟩, rfl, ho5, hg5⟩
        obtain ⟨ma', mc', hm⟩ := own_form ho5.1
        obtain ⟨rfl, rfl, rfl⟩ : ma = ma' ∧ mn = (upF 0 cs.length).length ∧ mc = mc' := by simpa [Sl.v] using hm
        have HM := hide ho5.ints
        clear hm ho5
        unfold Sl.v at HM ⊢
        simp only at HM ⊢
        rw [upF_len] at HM ⊢
        have g5 := grown_trans (grown_trans g2 gr2) hg5
        have hln := HLN.out
        rw [hln]
        go_wp2_with fail
        go_loopw [9] (fun i wr => w5.grownBy wr none ∧ ∃ k : Nat, k ≤ cs.length ∧ i = .int .i64 k) (fun i _ => cs.length - (intOf i).toNat)
        case atStart => exact ⟨grown_refl _, 0, Nat.zero_le _, rfl⟩
        case round =>
          obtain ⟨hgr, k, hk, rfl⟩ := hrel
          by_cases hlt : k < cs.length
          · obtain ⟨sb, so, rfl, d0⟩ := ints_addrG (HM.out.more hgr) (k := k) (by rw [upF_len]; exact hlt)
            have hup := upF_at 0 cs.length k hlt
            rw [List.getD, hup, Nat.zero_add, Option.getD_some] at d0
            clear hup
            go_wp2_with fail
            go_roundw
            case rel => exact ⟨hgr, k + 1, by omega, by go_num⟩
            case measure => simp [intOf]; omega
          · go_wp2_with fail
            refine (LV.out _ (grown_trans g5 hgr)).mono ?_
            rintro e wz ⟨rfl, hgz⟩
            go_wp2
            go_ret
            exact ⟨rfl, grown_below (grown_trans (grown_trans g5 hgr) hgz)⟩
  · go_wp2_with fail
    refine (LV.out w2 (grown_trans g0 hg2)).mono ?_
    rintro e wz ⟨rfl, hgz⟩
    go_wp2
    go_ret
    exact ⟨rfl, grown_below (grown_trans (grown_trans g0 hg2) hgz)⟩
end Go.Proofs.YtflalpchhojenaaDoor
