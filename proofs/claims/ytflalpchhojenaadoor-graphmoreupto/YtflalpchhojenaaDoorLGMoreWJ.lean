/- GraphMore, by the walk. -/
import Derived.Test.YtflalpchhojenaaDoorGMorePJ
import Derived.Test.YtflalpchhojenaaDoorGFewJ
import Derived.Test.YtflalpchhojenaaDoorGCopyJJ
import Derived.Test.YtflalpchhojenaaDoorGRefJ
import Derived.Test.YtflalpchhojenaaDoorNSameNJ
import Derived.Test.YtflalpchhojenaaDoorNRNumJ
import Derived.BigQuiet
import Derived.Deep.AppendLies
namespace Go.Proofs.YtflalpchhojenaaDoor
open Go.RowKit

theorem grown_drewN {a b : World} (h : a.grownBy b none) (n : Nat) : a.grownBy (b.drewN n) none := ⟨h.os, h.tape, h.output, h.size, h.block⟩

/-- The copy with one more input is a graph that comes in. -/
theorem CopiedG.more_in {w2 w3 W : World} {g h : Gra} {cs : List Nc} {vin vout : List (Val × List Int)} {its : List (Nam × List Int × List Int)} {ms : List (Nod × Ni)} {vi vo : List (Val × List Int)} {ts : List (Nam × List Int × List Int)} {i0 i1 o0 o1 n0 n1 t0 t1 : Nat} (hc : CopiedG w2 w3 g cs vin vout its h ms vi vo ts i0 i1 o0 o1 n0 n1 t0 t1) (hg : GraphOk w2 g cs vin vout its) {v : Val} {ds : List Int} (hgw : w2.grownBy W none) (hvd : IsInts w2 v.dv.v ds) (hvs : v.name.size ≤ 1048576) {u : Sl} (hu : IsVals W u.v (vi.map (·.1) ++ [v])) (kp : ∀ b, b < w3.heap.size → h.iv.v.ownBlock ≠ some b → W.heap[b]? = w3.heap[b]?) (hsz : w3.heap.size ≤ W.heap.size) (hf : vin.length ≤ 1048575) :
    GraphOk W ⟨h.name, h.nv, u, h.ov, h.tv⟩ (ms.map toNc) (vi ++ [(v, ds)]) vo ts := by
  have hk := hc.ok hg
  obtain ⟨f1, f2, f3, f4⟩ := hg.base.few
  have l1 := key_len hc.kn
  have l2 := key_len hc.ki
  have l3 := key_len hc.ko
  have l4 := key_len hc.kt
  rw [List.length_map] at l1
  obtain ⟨ap1, ap2, ap3, ap4, ap5⟩ := hc.apt
  have hrow : ∀ b, h.iv.v.ownBlock = some b → i0 ≤ b ∧ b < i1 := fun b e => ⟨(World.ownsRow.lt hc.ins.own b e).1, hc.ins.row b e⟩
  have no : OwnVals W o0 o1 h.ov.v vo := hc.outs.kept valFeet (Nat.le_trans hc.outs.le hsz) fun b h1 h2 => kp b (Nat.lt_of_lt_of_le h2 hc.outs.le) fun e => by have := hrow b e; omega
  have nn : OwnNods W n0 n1 h.nv.v ms := hc.nodes.kept nodFeet (Nat.le_trans hc.nodes.le hsz) fun b h1 h2 => kp b (Nat.lt_of_lt_of_le h2 hc.nodes.le) fun e => by have := hrow b e; omega
  have nt : OwnNams W t0 t1 h.tv.v ts := hc.inits.kept namFeet (Nat.le_trans hc.inits.le hsz) fun b h1 h2 => kp b (Nat.lt_of_lt_of_le h2 hc.inits.le) fun e => by have := hrow b e; omega
  refine ⟨graphIn_parts (nn.isL ncells_len (by omega)) nn.has (no.isL vcells_len (by omega)) no.has (nt.isL mcells_len (by omega)) nt.has (by rw [List.map_append]; exact hu) (fun p hp => ?_) (fun p hp => ?_) ⟨by omega, by rw [List.length_append, List.length_singleton]; omega, by omega, by omega⟩, fun y hy => ?_, hk.os, hk.is⟩
  · rcases List.mem_append.1 hp with hp | hp
    · exact valFeet _ _ _ _ (hc.ins.has p hp) fun b hb e => kp b hb (hc.ins.new p hp b e).2.2
    · obtain rfl : p = (v, ds) := by simpa using hp
      exact hvd.more hgw
  · rcases List.mem_append.1 hp with hp | hp
    · exact hk.base.short p hp
    · obtain rfl : p = (v, ds) := by simpa using hp
      exact hvs
  · have hy2 : y = v.name ∨ y ∈ vnames (ms.map toNc) vi ts := by
      unfold vnames at hy ⊢
      simp only [List.map_append, List.map_cons, List.map_nil, List.mem_append, List.mem_singleton] at hy ⊢
      rcases hy with ((hy | hy) | hy) | hy
      · exact Or.inr (Or.inl (Or.inl hy))
      · exact Or.inl hy
      · exact Or.inr (Or.inl (Or.inr hy))
      · exact Or.inr (Or.inr hy)
    rcases hy2 with rfl | hy2
    · exact hvs
    · exact hk.vs y hy2

set_option maxRecDepth 100000 in
set_option maxHeartbeats 6400000 in
theorem graphMore_walk (g : Gra) (cs : List Nc) (vin vout : List (Val × List Int)) (its : List (Nam × List Int × List Int)) (v : Val) (ds : List Int) (w : World) (hl : Laid w) (hg : GraphOk w g cs vin vout its) (hv : IsInts w v.dv.v ds) (hvs : v.name.size ≤ 1048576) (hfw : g.iv.n ≤ 1048575) :
    Calls Tryd.prog 8 #[gval g, .agg #[.string v.name, .int .i64 v.ty, .slice v.dv.a v.dv.n v.dv.c]] w fun e w' => e = .returned (.bool true) ∧ Below w.heap.size w w' := by
  obtain ⟨i0, hi, hz0, hz1, hz2⟩ := info_parts infoVal
  have HL := hide hl
  have HG := hide hg
  have HV := hide hv
  have LV := hide (fun (wx : World) (hx : w.grownBy wx none) => glive_any wx (hl.more hx))
  have AG := hide (fun (wx : World) (hx : w.grownBy wx none) => all_any g cs vin vout its wx (hg.more hx))
  have CG := hide (fun (wx : World) (hx : w.grownBy wx none) => copygraph_any g cs vin vout its wx (hg.more hx).base)
  have OA := hide (fun (wx : World) (hx : w.grownBy wx none) => order_any g cs vin vout its wx (hl.more hx) (hg.more hx))
  have MO := hide (more_order (cs := cs) (vin := vin) (vout := vout) (its := its) (v := v) (ds := ds))
  have ALL := hide (show (allN cs vin vout its).length ≤ 1099515822080 by
    have h1 := flat_le (cs := cs) (fun c hc => (hg.is c hc).1)
    have h2 := hg.base.few
    have h3 : cs.length * 1048577 ≤ 1048576 * 1048577 := Nat.mul_le_mul_right _ h2.1
    unfold allN
    simp only [List.length_append, List.length_map]
    omega)
  obtain ⟨OR, hOR⟩ : ∃ OR, OR = orderR cs vin vout its := ⟨_, rfl⟩
  obtain ⟨MR, hMR⟩ : ∃ MR, MR = orderR cs (vin ++ [(v, ds)]) vout its := ⟨_, rfl⟩
  rw [← hOR] at OA MO
  rw [← hMR] at MO
  have HMR := hide hMR
  clear hOR hMR
  obtain ⟨OL, OE⟩ := OR
  obtain ⟨ML, ME⟩ := MR
  simp only at OA MO
  have e1 : g.nv.n = cs.length := by obtain ⟨_, _, e, -⟩ := hg.base.nodes.form; rw [List.length_map] at e; simp only [Sl.v, Value.slice.injEq] at e; exact e.2.1
  have e2 : g.iv.n = vin.length := by obtain ⟨_, _, e, -⟩ := hg.base.ins.form; rw [List.length_map] at e; simp only [Sl.v, Value.slice.injEq] at e; exact e.2.1
  have e4 : g.tv.n = its.length := by obtain ⟨_, _, e, -⟩ := hg.base.inits.form; rw [List.length_map] at e; simp only [Sl.v, Value.slice.injEq] at e; exact e.2.1
  obtain ⟨f1, f2, f3, f4⟩ := hg.base.few
  clear hg hl hv
  obtain ⟨nam, ⟨na0, nn0, nc0⟩, ⟨ia, iN, ic⟩, ⟨oa, oN, oc⟩, ⟨ta, tN, tc⟩⟩ := g
  unfold gval at CG AG OA ⊢
  simp only at CG AG OA e1 e2 e4 hfw ⊢
  subst e1 e2 e4
  obtain ⟨vnm, vty, ⟨vda, vdn, vdc⟩⟩ := v
  simp only at HV hvs MO HMR ⊢
  obtain ⟨w0, hw0⟩ : ∃ w0, w0 = (w.alloc (.cells #[.string nam, .slice na0 cs.length nc0, .slice ia vin.length ic, .slice oa oN oc, .slice ta its.length tc] 26)).alloc (.cells #[.string vnm, .int .i64 vty, .slice vda vdn vdc] 46) := ⟨_, rfl⟩
  have g0 : w.grownBy w0 none := by rw [hw0]; exact grown_trans (grown_new _ _) (grown_new _ _)
  have hbx := two_boxes w (.cells #[.string nam, .slice na0 cs.length nc0, .slice ia vin.length ic, .slice oa oN oc, .slice ta its.length tc] 26) (.cells #[.string vnm, .int .i64 vty, .slice vda vdn vdc] 46)
  have hbx0 := hbx
  rw [← hw0] at hbx
  have BX : Hid (∀ wx, w0.grownBy wx none → wx.heap[w.heap.size]? = some (.cells #[.string nam, .slice na0 cs.length nc0, .slice ia vin.length ic, .slice oa oN oc, .slice ta its.length tc] 26 (0, 0))) := fun wx hx => box_kept hbx.1 hx
  have BV : Hid (∀ wx, w0.grownBy wx none → wx.heap[w.heap.size + 1]? = some (.cells #[.string vnm, .int .i64 vty, .slice vda vdn vdc] 46 (0, 0))) := fun wx hx => box_kept hbx.2 hx
  obtain ⟨r0, r1, r2, r3, r4⟩ := gra_cells (g := ⟨nam, ⟨na0, cs.length, nc0⟩, ⟨ia, vin.length, ic⟩, ⟨oa, oN, oc⟩, ⟨ta, its.length, tc⟩⟩) hbx0.1
  clear hbx hbx0
  go_enter Tryd.func8, Tryd.ntmps8
  go_wp2_with fail
  rw [← hw0]
  clear hw0 r0 r1 r2 r3 r4
  refine (AG.out w0 g0).mono ?_
  rintro e w1 ⟨u, rfl, hu, hg1⟩
  obtain ⟨ua, uc, hue⟩ := OwnsL.form hu
  obtain ⟨AN, hAN⟩ : ∃ AN, AN = allN cs vin vout its := ⟨_, rfl⟩
  rw [← hAN] at hu hue MO ALL
  clear hAN
  have hal := ALL.out
  have HU := hide hu
  rw [hue] at HU ⊢
  clear hu hue
  go_wp2_with fail
  go_loopw [6] (fun i wr => w1.grownBy wr none ∧ ∃ k : Nat, k ≤ AN.length ∧ i = .int .i64 k ∧ vnm ∉ AN.take k) (fun i _ => AN.length - (intOf i).toNat)
  case atStart => exact ⟨grown_refl _, 0, Nat.zero_le _, rfl, by simp⟩
  case round =>
    obtain ⟨hgr, k, hk, rfl, hno⟩ := hrel
    have HNO := hide hno
    clear hno
    have gr0 := grown_trans hg1 hgr
    have b3 := BV.out wr gr0
    have v0 : wr.cell? ⟨w.heap.size + 1, 0, none⟩ = some (.string vnm) := (cell_of_row _ _ 0 _ _ (0, 0) b3).trans rfl
    have v2 : wr.cell? ⟨w.heap.size + 1, 2, none⟩ = some (.slice vda vdn vdc) := (cell_of_row _ _ 2 _ _ (0, 0) b3).trans rfl
    clear b3
    by_cases hlt : k < AN.length
    · have HI := (HU.out.isL (bytes := 16) scell_len (by omega)).more hgr
      obtain ⟨sb, so, rfl⟩ := HI.addr hlt
      have d0 := str_at HI k hlt
      have HK : Hid (AN[k]? = some AN[k]) := List.getElem?_eq_getElem hlt
      obtain ⟨Y, hY⟩ : ∃ Y, Y = AN[k] := ⟨_, rfl⟩
      rw [← hY] at d0 HK
      clear HI hY v2
      by_cases h : (Y.toList == vnm.toList) = true
      · go_wp2_with fail
        go_quiet (fail)
        go_wp2_with fail
        refine (LV.out _ (grown_drewN (grown_trans g0 gr0) _)).mono ?_
        rintro e w2 ⟨rfl, hg2⟩
        go_wp2
        go_ret
        exact ⟨rfl, grown_below (grown_trans (grown_drewN (grown_trans g0 gr0) _) hg2)⟩
      · have h' : (Y.toList == vnm.toList) = false := by simpa using h
        have HN : Hid (vnm ∉ AN.take (k + 1)) := by
          show _ ∉ _
          rw [List.take_add_one, HK.out, List.mem_append]
          rintro (e | e)
          · exact HNO.out e
          · have e2 : vnm = Y := by simpa using e
            rw [e2] at h
            simp at h
        clear h
        go_wp2_with fail
        go_quiet (fail)
        go_wp2_with fail
        go_roundw
        case rel => exact ⟨grown_drewN hgr _, k + 1, by omega, by go_num, HN.out⟩
        case measure => simp [intOf]; omega
    · have hx : vnm ∉ AN := by rwa [List.take_of_length_le (by omega)] at HNO
      have HX := hide hx
      obtain ⟨r0, r1, r2, r3, r4⟩ := gra_cells (g := ⟨nam, ⟨na0, cs.length, nc0⟩, ⟨ia, vin.length, ic⟩, ⟨oa, oN, oc⟩, ⟨ta, its.length, tc⟩⟩) (BX.out wr gr0)
      clear hx HNO
      go_wp2_with fail
      clear v0 v2
      refine (OA.out wr (grown_trans g0 gr0)).mono ?_
      rintro e w2 ⟨⟨pa, pn, pc⟩, rfl, ho2, hg2⟩
      have g2 := grown_trans gr0 hg2
      have HP := hide ho2.ints
      clear ho2
      obtain ⟨r0, r1, r2, r3, r4⟩ := gra_cells (g := ⟨nam, ⟨na0, cs.length, nc0⟩, ⟨ia, vin.length, ic⟩, ⟨oa, oN, oc⟩, ⟨ta, its.length, tc⟩⟩) (BX.out w2 g2)
      go_wp2_with fail
      clear r0 r1 r2 r3 r4
      refine (CG.out w2 (grown_trans g0 g2)).mono ?_
      rintro e w3 ⟨h, ms, vi, vo, ts, i0', i1, o0, o1, n0, n1, t0, t1, rfl, hc⟩
      have HC := hide hc
      have hg3 := hc.grown
      have g3 := grown_trans g2 hg3
      have KNM := hide hc.name
      clear hc
      obtain ⟨hnam, ⟨ha0, hn0, hc0⟩, ⟨hia, hiN, hic⟩, ⟨hoa, hoN, hoc⟩, ⟨hta, htN, htc⟩⟩ := h
      obtain ⟨ya, yc, hye⟩ := OwnsL.form HC.out.ins.own
      have hvl : (vi.map (·.1)).length = vin.length := by rw [List.length_map]; exact key_len HC.out.ki
      rw [hvl] at hye
      obtain ⟨rfl, rfl, rfl⟩ : hia = ya ∧ hiN = vin.length ∧ hic = yc := by simpa [Sl.v] using hye
      have HVL := hide hvl
      clear hye hvl
      have BH : Hid ((w3.alloc (.cells #[.string hnam, .slice ha0 hn0 hc0, .slice hia vin.length hic, .slice hoa hoN hoc, .slice hta htN htc] 26)).heap[w3.heap.size]? = some (.cells #[.string hnam, .slice ha0 hn0 hc0, .slice hia vin.length hic, .slice hoa hoN hoc, .slice hta htN htc] 26 (0, 0))) := heap_alloc_new w3 _
      have OW : Hid (∀ o o', ((w3.alloc o).alloc o').ownsRow w2.heap.size 46 3 (.slice hia vin.length hic) vin.length ((vi.map (·.1)).flatMap vcells)) := fun o o' => owns_row_at (((HC.out.ins.own.base_le HC.out.low.1).more (grown_new _ _)).more (grown_new _ _)) HVL.out
      have NB : Hid (some w3.heap.size ≠ (Value.slice hia vin.length hic).ownBlock) := fun e => by have := World.ownsRow.lt HC.out.ins.own w3.heap.size e.symm; omega
      have b3 := BV.out w3 g3
      have v0 : w3.cell? ⟨w.heap.size + 1, 0, none⟩ = some (.string vnm) := (cell_of_row _ _ 0 _ _ (0, 0) b3).trans rfl
      have v1 : w3.cell? ⟨w.heap.size + 1, 1, none⟩ = some (.int .i64 vty) := (cell_of_row _ _ 1 _ _ (0, 0) b3).trans rfl
      have v2 : w3.cell? ⟨w.heap.size + 1, 2, none⟩ = some (.slice vda vdn vdc) := (cell_of_row _ _ 2 _ _ (0, 0) b3).trans rfl
      have v0 := cell_still v0 (grown_new w3 (.cells #[.string hnam, .slice ha0 hn0 hc0, .slice hia vin.length hic, .slice hoa hoN hoc, .slice hta htN htc] 26))
      have v1 := cell_still v1 (grown_new w3 (.cells #[.string hnam, .slice ha0 hn0 hc0, .slice hia vin.length hic, .slice hoa hoN hoc, .slice hta htN htc] 26))
      have v2 := cell_still v2 (grown_new w3 (.cells #[.string hnam, .slice ha0 hn0 hc0, .slice hia vin.length hic, .slice hoa hoN hoc, .slice hta htN htc] 26))
      have s23 := hg3.size
      clear b3
      go_wp2_with (at_builtin; refine wpList_append_lies _ rfl (.tmp 38) (.tmp 40) 23 rfl w2.heap.size 46 i0 (.agg #[.string ⟨#[]⟩, .int .i64 0, .slice none 0 0]) 3 48 Tryd.underlying23 hi hz0 hz1 hz2 rfl (by decide) (.slice hia vin.length hic) vin.length ((vi.map (·.1)).flatMap vcells) rfl (by exact OW.out _ _) ⟨w3.heap.size + 1, 0, none⟩ 1 1 (vcells ⟨vnm, vty, ⟨vda, vdn, vdc⟩⟩) rfl rfl (by exact World.news_of_block (by have h := heap_alloc_new (w3.alloc (.cells #[.string hnam, .slice ha0 hn0 hc0, .slice hia vin.length hic, .slice hoa hoN hoc, .slice hta htN htc] 26)) (.cells #[.string vnm, .int .i64 vty, .slice vda vdn vdc] 46); simpa using h)) (vcell_one _) (by omega) (by simp only [maxLen]; omega) (by omega) (by simp; omega) (w3.heap.size + 1 + 1) (by simp) ?_; intro gg cap w8 hown8 hgrow hat hlt8; have B8 : Hid (w8.heap[w3.heap.size]? = some (.cells #[.string hnam, .slice ha0 hn0 hc0, .slice hia vin.length hic, .slice hoa hoN hoc, .slice hta htN htc] 26 (0, 0))) := ((hgrow.block w3.heap.size (by simp; omega) NB.out).trans (box_kept BH.out (grown_new _ _))); obtain ⟨f0, f1', f2', f3', f4'⟩ := gra_frozen B8.out; obtain ⟨c0, c1, c2, c3, c4⟩ := gra_cells (g := ⟨hnam, ⟨ha0, hn0, hc0⟩, ⟨hia, vin.length, hic⟩, ⟨hoa, hoN, hoc⟩, ⟨hta, htN, htc⟩⟩) B8.out)
      obtain ⟨q1, q2, q3⟩ := put1 (j := 2) (.slice (some ⟨gg, 0, none⟩) (vin.length + 1) cap) B8.out
      obtain ⟨W9, hW9⟩ : ∃ W9, W9 = w8.setCell ⟨w3.heap.size, 2, none⟩ (.slice (some ⟨gg, 0, none⟩) (vin.length + 1) cap) := ⟨_, rfl⟩
      rw [← hW9] at q1 q2 q3 ⊢
      clear hW9 c0 c1 c2 c3 c4 f0 f1' f2' f3' f4' v0 v1 v2
      have GA := grown_trans (grown_new w3 (.cells #[.string hnam, .slice ha0 hn0 hc0, .slice hia vin.length hic, .slice hoa hoN hoc, .slice hta htN htc] 26)) (grown_new _ (.cells #[.string vnm, .int .i64 vty, .slice vda vdn vdc] 46))
      have sGA := GA.size
      have sgr := hgrow.size
      have hrw : ∀ b, (Value.slice hia vin.length hic).ownBlock = some b → w2.heap.size ≤ b ∧ b < w3.heap.size := fun b e => by have := World.ownsRow.lt HC.out.ins.own b e; have := HC.out.low.1; omega
      have gW : w2.grownBy W9 none := grown_trans_row (grown_trans_row (grown_trans hg3 GA) hgrow (fun r e => (hrw r e).1)) q2 (fun r e => by cases e; exact s23)
      have g9 : w0.grownBy W9 none := grown_trans g2 gW
      have KP : ∀ b, b < w3.heap.size → (Value.slice hia vin.length hic).ownBlock ≠ some b → W9.heap[b]? = w3.heap[b]? := fun b hb hne => (q2.block b (by omega) (fun e => by have := Option.some.inj e; omega)).trans ((hgrow.block b (by omega) (fun e => hne e.symm)).trans (GA.block b hb (by simp)))
      have HU9 : IsVals W9 (.slice (some ⟨gg, 0, none⟩) (vin.length + 1) cap) (vi.map (·.1) ++ [⟨vnm, vty, ⟨vda, vdn, vdc⟩⟩]) := by
        have o8 := owns_at_row (f := vcells) (y := ⟨vnm, vty, ⟨vda, vdn, vdc⟩⟩) HVL.out hown8
        refine (owns_block o8 (fun b e => q2.block b (World.ownsRow.lt o8 b e).2 (fun e2 => ?_))).isL vcells_len (by rw [List.length_append, HVL.out, List.length_singleton]; omega)
        have e3 : gg = b := by simpa [Value.ownBlock] using e
        have e4 : b = w3.heap.size := Option.some.inj e2
        rcases hat with h | h
        · have := (hrw gg h).2
          omega
        · omega
      have OKH := HC.out.more_in (HG.out.more (grown_trans g0 g2)) (v := ⟨vnm, vty, ⟨vda, vdn, vdc⟩⟩) (ds := ds) gW (HV.out.more (grown_trans g0 g2)) hvs (u := ⟨some ⟨gg, 0, none⟩, vin.length + 1, cap⟩) HU9 KP (by omega) hfw
      have EQ : orderR (ms.map toNc) (vi ++ [(⟨vnm, vty, ⟨vda, vdn, vdc⟩⟩, ds)]) vo ts = (ML, ME) := by
        rw [HMR.out]
        exact SameG.order ⟨HC.out.kn, by rw [List.map_append, List.map_append, HC.out.ki], HC.out.ko, HC.out.kt⟩
      have OB := hide (order_any _ _ _ _ _ W9 (HL.out.more (grown_trans g0 g9)) OKH)
      rw [EQ] at OB
      unfold gval at OB
      simp only at OB
      clear hown8 hgrow hat hlt8 q1 q2 q3 HU9 OKH EQ KP hrw GA
      refine OB.out.mono ?_
      rintro e w10 ⟨⟨qa, qn, qc⟩, rfl, ho10, hg10⟩
      have HQ := hide ho10.ints
      have g10 := grown_trans (grown_trans g0 g9) hg10
      have g10' := grown_trans g9 hg10
      have HP10 := hide (HP.out.more (grown_trans gW hg10))
      clear ho10
      have b3 := BV.out w10 g10'
      have v0 : w10.cell? ⟨w.heap.size + 1, 0, none⟩ = some (.string vnm) := (cell_of_row _ _ 0 _ _ (0, 0) b3).trans rfl
      have v1 : w10.cell? ⟨w.heap.size + 1, 1, none⟩ = some (.int .i64 vty) := (cell_of_row _ _ 1 _ _ (0, 0) b3).trans rfl
      have v2 : w10.cell? ⟨w.heap.size + 1, 2, none⟩ = some (.slice vda vdn vdc) := (cell_of_row _ _ 2 _ _ (0, 0) b3).trans rfl
      obtain ⟨r0, r1, r2, r3, r4⟩ := gra_cells (g := ⟨nam, ⟨na0, cs.length, nc0⟩, ⟨ia, vin.length, ic⟩, ⟨oa, oN, oc⟩, ⟨ta, its.length, tc⟩⟩) (BX.out w10 g10')
      simp only at r1 r2 r4
      clear b3 r0 r3
      go_wp2_with fail
      refine (refcount_any (.slice vda vdn vdc) ds w10 (HV.out.more g10)).mono ?_
      rintro e wy ⟨rfl, rfl⟩
      by_cases hz : OE = 0
      · subst hz
        by_cases hn : (vnm.toList == []) = true
        · go_wp2_with fail
          refine (LV.out w10 g10).mono ?_
          rintro e wz ⟨rfl, hgz⟩
          go_wp2
          go_ret
          exact ⟨rfl, grown_below (grown_trans g10 hgz)⟩
        · have hn' : (vnm.toList == []) = false := by simpa using hn
          clear hn
          go_wp2_with fail
          refine (rtyped_any vty w10).mono ?_
          rintro e wy ⟨rfl, hy⟩
          obtain rfl : w10 = wy := hy.symm
          cases hc : chk vty 0 with
          | false =>
            go_wp2_with fail
            refine (LV.out w10 g10).mono ?_
            rintro e wz ⟨rfl, hgz⟩
            go_wp2
            go_ret
            exact ⟨rfl, grown_below (grown_trans g10 hgz)⟩
          | true =>
            by_cases hk0 : cntE ds = 0
            · by_cases h3 : 3000 ≤ vin.length + its.length + cs.length
              · have h3' : (3000 : Int) ≤ (vin.length : Int) + (its.length : Int) + (cs.length : Int) := by omega
                rw [hk0]
                go_wp2_with fail
                refine (LV.out w10 g10).mono ?_
                rintro e wz ⟨rfl, hgz⟩
                go_wp2
                go_ret
                exact ⟨rfl, grown_below (grown_trans g10 hgz)⟩
              · have h3' : ¬ (3000 : Int) ≤ (vin.length : Int) + (its.length : Int) + (cs.length : Int) := by omega
                have hmo := MO.out (by simp) HX.out (by simpa using hn') hc hk0 (by omega)
                simp only [Prod.mk.injEq] at hmo
                obtain ⟨rfl, rfl⟩ := hmo
                rw [hk0]
                go_wp2_with fail
                refine (sameints_eq _ _ _ w10 HP10.out HQ.out).mono ?_
                rintro e w11 ⟨rfl, hg11⟩
                go_wp2_with fail
                refine (LV.out w11 (grown_trans g10 hg11)).mono ?_
                rintro e wz ⟨rfl, hgz⟩
                go_wp2
                go_ret
                exact ⟨rfl, grown_below (grown_trans (grown_trans g10 hg11) hgz)⟩
            · go_wp2_with fail
              refine (LV.out w10 g10).mono ?_
              rintro e wz ⟨rfl, hgz⟩
              go_wp2
              go_ret
              exact ⟨rfl, grown_below (grown_trans g10 hgz)⟩
      · go_wp2_with fail
        refine (LV.out w10 g10).mono ?_
        rintro e wz ⟨rfl, hgz⟩
        go_wp2
        go_ret
        exact ⟨rfl, grown_below (grown_trans g10 hgz)⟩
end Go.Proofs.YtflalpchhojenaaDoor
