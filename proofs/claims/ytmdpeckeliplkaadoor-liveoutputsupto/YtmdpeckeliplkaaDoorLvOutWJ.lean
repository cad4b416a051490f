/- LiveOutputs, by the walk. -/
import Derived.Test.YtmdpeckeliplkaaDoorPartP
import Derived.Test.YtmdpeckeliplkaaDoorPartO
import Derived.BigQuiet
namespace Go.Proofs.YtmdpeckeliplkaaDoor
open Go.RowKit

theorem outN_not {l : List ByteArray} {k : Nat} (hk : k < l.length) : ∀ (os : List ByteArray) (bs : List Bool), bs.length = l.length → (os.foldl (outS l) bs).getD k false = false → bs.getD k false = false ∧ ∀ o ∈ os, inL o l = true → pos l o ≠ k
  | [], bs, _, h => ⟨h, fun o ho => by cases ho⟩
  | x :: os, bs, hl, h => by
    rw [List.foldl_cons] at h
    have hl2 : (outS l bs x).length = l.length := by unfold outS; split <;> simp [hl]
    obtain ⟨h1, h2⟩ := outN_not hk os (outS l bs x) hl2 h
    unfold outS at h1
    by_cases hx : inL x l = true
    · rw [if_pos hx, getD_set _ _ _ _ _ (by rw [hl]; exact pos_lt hx)] at h1
      by_cases e : k = pos l x
      · rw [if_pos e] at h1
        cases h1
      · rw [if_neg e] at h1
        refine ⟨h1, fun o ho hi => ?_⟩
        rcases List.mem_cons.1 ho with rfl | ho
        · exact fun e2 => e e2.symm
        · exact h2 o ho hi
    · rw [if_neg hx] at h1
      refine ⟨h1, fun o ho hi => ?_⟩
      rcases List.mem_cons.1 ho with rfl | ho
      · exact absurd hi hx
      · exact h2 o ho hi

theorem pos_unlike {l : List ByteArray} {k : Nat} (hk : k < l.length) (h : inL l[k] (l.take k) = false) : inL l[k] l = true ∧ pos l l[k] = k := by
  have h1 : inL l[k] l = true := by
    unfold inL
    rw [List.any_eq_true]
    exact ⟨l[k], List.getElem_mem _, by simp⟩
  refine ⟨h1, ?_⟩
  have h2 := pos_at h1
  have h3 := pos_lt h1
  rcases Nat.lt_trichotomy (pos l l[k]) k with h4 | h4 | h4
  · exfalso
    unfold inL at h
    rw [List.any_eq_false] at h
    have hm : l[k] ∈ l.take k := by
      rw [List.mem_iff_getElem?]
      exact ⟨pos l l[k], by rw [List.getElem?_take, if_pos h4]; exact h2⟩
    exact h _ hm (by simp)
  · exact h4
  · exfalso
    have h5 := List.not_of_lt_findIdx (p := fun y : ByteArray => y.data.toList == (l[k]).data.toList) (xs := l) (i := k) h4
    simp at h5

/-- An output's node is apart from none that comes later. -/
theorem out_apart {cs : List Nc} {vin vout : List (Val × List Int)} {its : List (Nam × List Int × List Int)} (hB : Behind (readG cs vin its) cs.length) (hn : namesOK [] (vnames cs vin its) = true) (hd : (lineF cs vin its).Nodup) (hr : ∀ z ∈ lineF cs vin its, 0 ≤ z ∧ z < cs.length) (hlen : (lineF cs vin its).length = cs.length) {a b m : Nat} (hab : a < b) (hb : b < cs.length) (hm : (lineF cs vin its)[a]? = some (m : Int)) (hmc : m < cs.length)
    (h : apartF (readG cs vin its) (outG cs vin vout its) (rowsG cs vin its) a b = true) : ∀ o ∈ onames vout, (o.toList == cs[m].n.out.toList) = false := by
  have h0 : (outG cs vin vout its).getD a false = false := by
    unfold apartF doneF at h
    simp only [Bool.or_eq_true, Bool.and_eq_true] at h
    rcases h with h | h
    · simpa using h.1.1
    · have := rows_lt hB (show a < cs.length by omega) _ b rfl hb h.1.2
      omega
  have hL : (inOrd cs (lineF cs vin its)).length = cs.length := by rw [inOrd_len]; exact hlen
  have ha : a < (outsN (inOrd cs (lineF cs vin its))).length := by rw [outsN_len, hL]; omega
  have hu := inOrd_unlike hn hd hr (k := a) (by rw [hL]; omega)
  have e1 : (outsN (inOrd cs (lineF cs vin its)))[a] = cs[m].n.out := by
    have e2 : (lineF cs vin its)[a]'(by omega) = (m : Int) := by
      have := List.getElem?_eq_getElem (l := lineF cs vin its) (i := a) (by omega)
      rw [this] at hm
      injection hm
    simp only [outsN, inOrd, List.getElem_map, e2, Int.toNat_natCast]
    rw [List.getD, List.getElem?_eq_getElem hmc]
    rfl
  have e3 : (inOrd cs (lineF cs vin its))[a]'(by rw [hL]; omega) = (inOrd cs (lineF cs vin its))[a]'(by rw [hL]; omega) := rfl
  have hu2 : inL (outsN (inOrd cs (lineF cs vin its)))[a] ((outsN (inOrd cs (lineF cs vin its))).take a) = false := by
    have e4 : (outsN (inOrd cs (lineF cs vin its))).take a = outsN ((inOrd cs (lineF cs vin its)).take a) := by simp [outsN, List.map_take]
    have e5 : (outsN (inOrd cs (lineF cs vin its)))[a] = ((inOrd cs (lineF cs vin its))[a]'(by rw [hL]; omega)).n.out := by simp [outsN]
    rw [e4, e5]
    exact hu
  obtain ⟨p1, p2⟩ := pos_unlike ha hu2
  obtain ⟨-, h2⟩ := outN_not ha (onames vout) (List.replicate (outsN (inOrd cs (lineF cs vin its))).length false) (by simp) h0
  intro o ho
  rw [beq_eq_false_iff_ne]
  intro e
  have e6 : o = cs[m].n.out := by
    apply bytes_ext
    have e7 : o.toList = cs[m].n.out.toList := e
    simpa [ByteArray.toList_eq] using e7
  rw [e6, ← e1] at ho
  exact h2 _ ho p1 p2

set_option maxRecDepth 100000 in
set_option maxHeartbeats 6400000 in
theorem liveOutputs_walk (g : Gra) (cs : List Nc) (vin vout : List (Val × List Int)) (its : List (Nam × List Int × List Int)) (a b : Int) (w : World) (hl : Laid w) (hg : GraphOk w g cs vin vout its) :
    Calls Tryd.prog 7 #[gval g, .int .i64 a, .int .i64 b] w fun e w' => e = .returned (.bool true) ∧ Below w.heap.size w w' := by
  have SA := hide (fun (wx : World) (hx : w.grownBy wx none) => small19_any g cs vin vout its wx (hg.more hx))
  have AP := hide (fun (wx : World) (hx : w.grownBy wx none) => apart_any g cs vin vout its a b wx (hl.more hx) (hg.more hx))
  have DO := hide (fun (wx : World) (hx : w.grownBy wx none) => dorder_any g cs vin vout its wx (hg.more hx))
  have LV := hide (fun (wx : World) (hx : w.grownBy wx none) => alive_any wx (hl.more hx))
  have HB := hide (fun (h : (orderR cs vin vout its).2 = 0) => read_behind hg h)
  have HG := hide hg
  have e1 : g.nv.n = cs.length := by obtain ⟨_, _, e, -⟩ := hg.base.nodes.form; rw [List.length_map] at e; simp only [Sl.v, Value.slice.injEq] at e; exact e.2.1
  have e3 : g.ov.n = vout.length := by obtain ⟨_, _, e, -⟩ := hg.base.outs.form; rw [List.length_map] at e; simp only [Sl.v, Value.slice.injEq] at e; exact e.2.1
  obtain ⟨f1, f2, f3, f4⟩ := hg.base.few
  obtain ⟨nam, ⟨na0, nn0, nc0⟩, ⟨ia, iN, ic⟩, ⟨oa, oN, oc⟩, ⟨ta, tN, tc⟩⟩ := g
  have e1 : nn0 = cs.length := e1
  have e3 : oN = vout.length := e3
  subst e1
  subst e3
  clear hl hg
  unfold gval at SA AP DO ⊢
  simp only at SA AP DO ⊢
  obtain ⟨w0, hw0⟩ : ∃ w0, w0 = w.alloc (.cells #[.string nam, .slice na0 cs.length nc0, .slice ia iN ic, .slice oa vout.length oc, .slice ta tN tc] 26) := ⟨_, rfl⟩
  have g0 : w.grownBy w0 none := by rw [hw0]; exact grown_new _ _
  have b0 := heap_alloc_new w (.cells #[.string nam, .slice na0 cs.length nc0, .slice ia iN ic, .slice oa vout.length oc, .slice ta tN tc] 26)
  rw [← hw0] at b0
  have BX : Hid (∀ wx, w0.grownBy wx none → wx.heap[w.heap.size]? = some (.cells #[.string nam, .slice na0 cs.length nc0, .slice ia iN ic, .slice oa vout.length oc, .slice ta tN tc] 26 (0, 0))) := fun wx hx => box_kept b0 hx
  obtain ⟨r0, r1, r2, r3, r4⟩ := gra_cells (g := ⟨nam, ⟨na0, cs.length, nc0⟩, ⟨ia, iN, ic⟩, ⟨oa, vout.length, oc⟩, ⟨ta, tN, tc⟩⟩) b0
  rw [hw0] at r0 r1 r2 r3 r4
  clear b0
  go_enter Tryd.func7, Tryd.ntmps7
  go_wp2_with fail
  rw [← hw0]
  clear hw0 r0 r1 r2 r3 r4
  refine (SA.out w0 g0).mono ?_
  rintro e w1 ⟨rfl, hg1⟩
  have g1 := grown_trans g0 hg1
  cases smallF cs vin vout its with
  | false =>
    go_wp2_with fail
    refine (LV.out w1 g1).mono ?_
    rintro e w2 ⟨rfl, hg2⟩
    go_wp2
    go_ret
    exact ⟨rfl, grown_below (grown_trans g1 hg2)⟩
  | true =>
    by_cases hab : b ≤ a
    · go_wp2_with fail
      refine (LV.out w1 g1).mono ?_
      rintro e w2 ⟨rfl, hg2⟩
      go_wp2
      go_ret
      exact ⟨rfl, grown_below (grown_trans g1 hg2)⟩
    have hab2 : decide (b ≤ a) = false := decide_eq_false hab
    by_cases han : a < 0
    · go_wp2_with fail
      refine (LV.out w1 g1).mono ?_
      rintro e w2 ⟨rfl, hg2⟩
      go_wp2
      go_ret
      exact ⟨rfl, grown_below (grown_trans g1 hg2)⟩
    have han2 : decide (a < 0) = false := decide_eq_false han
    obtain ⟨r0, r1, r2, r3, r4⟩ := gra_cells (g := ⟨nam, ⟨na0, cs.length, nc0⟩, ⟨ia, iN, ic⟩, ⟨oa, vout.length, oc⟩, ⟨ta, tN, tc⟩⟩) (BX.out w1 hg1)
    go_wp2_with fail
    clear r0 r1 r2 r3 r4
    refine (DO.out w1 g1).mono ?_
    rintro e w2 ⟨⟨ua, un, uc⟩, rfl, ho, hg2⟩
    have g2 := grown_trans g1 hg2
    have g02 := grown_trans hg1 hg2
    obtain ⟨ua', uc', hov⟩ := own_form ho.1
    obtain ⟨rfl, rfl, rfl⟩ : ua = ua' ∧ un = (orderR cs vin vout its).1.length ∧ uc = uc' := by simpa [Sl.v] using hov
    have HI := hide ho.ints
    simp only [Sl.v] at HI ⊢
    clear ho hov
    obtain ⟨r0, r1, r2, r3, r4⟩ := gra_cells (g := ⟨nam, ⟨na0, cs.length, nc0⟩, ⟨ia, iN, ic⟩, ⟨oa, vout.length, oc⟩, ⟨ta, tN, tc⟩⟩) (BX.out w2 g02)
    obtain ⟨OL, hOL⟩ : ∃ OL, OL = (orderR cs vin vout its).1 := ⟨_, rfl⟩
    obtain ⟨OE, hOE⟩ : ∃ OE, OE = (orderR cs vin vout its).2 := ⟨_, rfl⟩
    have HOL := hide hOL
    have HOE := hide hOE
    rw [← hOL] at HI
    rw [← hOE, ← hOL]
    clear hOL hOE
    go_wp2_with fail
    clear r0 r1 r2 r3 r4
    refine (AP.out w2 g2).mono ?_
    rintro e w3 ⟨hg3, ⟨hz, rfl⟩ | ⟨hz, hno, rfl⟩ | ⟨hz, hyes, rfl⟩⟩
    · have g3 := grown_trans g2 hg3
      rw [← HOE.out] at hz ⊢
      have hzb : (OE != 0) = true := by simpa using hz
      clear hz
      go_wp2_with fail
      refine (LV.out w3 g3).mono ?_
      rintro e w4 ⟨rfl, hg4⟩
      go_wp2
      go_ret
      exact ⟨rfl, grown_below (grown_trans g3 hg4)⟩
    · have g3 := grown_trans g2 hg3
      rw [← HOE.out] at hz
      subst hz
      clear hno
      go_wp2_with fail
      refine (LV.out w3 g3).mono ?_
      rintro e w4 ⟨rfl, hg4⟩
      go_wp2
      go_ret
      exact ⟨rfl, grown_below (grown_trans g3 hg4)⟩
    · have g3 := grown_trans g2 hg3
      have g03 := grown_trans g02 hg3
      obtain ⟨hbe, hn, -⟩ := HB.out hz
      obtain ⟨k1, k2, k3, k4, k5⟩ := orderR_ok hz
      obtain ⟨m1, m2, -⟩ := line_law (cs := cs) (vin := vin) (its := its) (fun c hc => (HG.out.is c hc).1) (fun c hc x hx => by
        have hfo := k4
        unfold foundF at hfo
        simp only [Bool.and_eq_true, List.all_eq_true] at hfo
        have := hfo.2 c hc
        unfold allF at this
        rw [List.all_eq_true] at this
        exact this x hx)
      obtain ⟨a0, a1, b0, b1, -⟩ := hyes
      obtain ⟨ka, rfl⟩ : ∃ m : Nat, a = (m : Int) := ⟨a.toNat, by omega⟩
      obtain ⟨kb, rfl⟩ : ∃ k : Nat, b = (k : Int) := ⟨b.toNat, by omega⟩
      rw [Int.toNat_natCast, Int.toNat_natCast]
      have hka : ka < cs.length := by omega
      have hOL : OL = lineF cs vin its := HOL.out.trans k1
      have hz0 : OE = 0 := HOE.out.trans hz
      subst hz0
      have hOn : OL.length = cs.length := by rw [hOL]; exact k2
      obtain ⟨vb, vo, rfl, s0⟩ := int_at (HI.out.more hg3) (k := ka) (by rw [hOn]; exact hka)
      have hzr := m2 _ (List.getElem_mem (show ka < (lineF cs vin its).length by rw [k2]; exact hka))
      have hel : OL[ka]'(by rw [hOn]; exact hka) = (lineF cs vin its)[ka]'(by rw [k2]; exact hka) := by simp only [hOL]
      rw [hel] at s0
      obtain ⟨z, hzz⟩ : ∃ z, z = (lineF cs vin its)[ka]'(by rw [k2]; exact hka) := ⟨_, rfl⟩
      rw [← hzz] at s0 hzr
      obtain ⟨m, rfl⟩ : ∃ m : Nat, z = (m : Int) := ⟨z.toNat, by omega⟩
      have hm : m < cs.length := by omega
      have hme : (lineF cs vin its)[ka]? = some (m : Int) := by rw [List.getElem?_eq_getElem (by rw [k2]; exact hka), ← hzz]
      have OA := hide (fun h => out_apart (vout := vout) hbe k3 m1 m2 k2 (show ka < kb by omega) (show kb < cs.length by omega) hme hm h)
      obtain ⟨x, hx⟩ : ∃ x, x = apartF (readG cs vin its) (outG cs vin vout its) (rowsG cs vin its) ka kb := ⟨_, rfl⟩
      rw [← hx] at OA ⊢
      have HLk := HG.out.base.nodes.more g3
      obtain ⟨b9, off, hna⟩ := HLk.addr (k := m) (by rw [List.length_map]; exact hm)
      have hna : na0 = some ⟨b9, off, none⟩ := hna
      subst hna
      obtain ⟨-, -, -, a3, -⟩ := HLk.nod m (by rw [List.length_map]; exact hm)
      rw [List.getElem_map] at a3
      obtain ⟨Y, hY⟩ : ∃ Y, Y = cs[m].n.out := ⟨_, rfl⟩
      rw [← hY] at a3 OA
      have hm0 : (0 : Int) ≤ (m : Int) := Int.natCast_nonneg _
      have hm1 : (m : Int) < (cs.length : Int) := by omega
      have hbl : ¬ (cs.length : Int) ≤ (kb : Int) := by omega
      have hbl2 : decide (cs.length ≤ kb) = false := decide_eq_false (by omega)
      rw [hOn]
      clear hbe hx hY hel hzz hzr hme HLk k1 k3 k4 m1 m2 hz hOL HI HOL HOE HB AP DO SA
      have HON := hide hOn
      clear hOn k2
      have S0 := hide s0
      have A3 := hide a3
      clear s0 a3
      have G3 := hide g3
      have G03 := hide g03
      obtain ⟨r0, r1, r2, r3, r4⟩ := gra_cells (g := ⟨nam, ⟨some ⟨b9, off, none⟩, cs.length, nc0⟩, ⟨ia, iN, ic⟩, ⟨oa, vout.length, oc⟩, ⟨ta, tN, tc⟩⟩) (BX.out w3 g03)
      go_wp2_with fail
      clear r0 r1 r2 r3 r4
      go_loopg [11] vout.length (fun gh i wr => ∃ t : Nat, gh = vout.length - t ∧ t ≤ vout.length ∧ i = .int .i64 t ∧ w3.grownBy wr none)
      case atStart => exact ⟨0, rfl, Nat.zero_le _, rfl, grown_refl _⟩
      case round =>
        obtain ⟨t, hgt, ht, rfl, hgr⟩ := hrel
        obtain ⟨r0, r1, r2, r3, r4⟩ := gra_cells (g := ⟨nam, ⟨some ⟨b9, off, none⟩, cs.length, nc0⟩, ⟨ia, iN, ic⟩, ⟨oa, vout.length, oc⟩, ⟨ta, tN, tc⟩⟩) (BX.out wr (grown_trans G03.out hgr))
        by_cases hlt : t < vout.length
        · have HLv := HG.out.base.outs.more (grown_trans G3.out hgr)
          obtain ⟨b8, off8, hna⟩ := HLv.addr (k := t) (by rw [List.length_map]; exact hlt)
          have hna : oa = some ⟨b8, off8, none⟩ := hna
          subst hna
          obtain ⟨v0, v1, v2⟩ := HLv.val t (by rw [List.length_map]; exact hlt)
          have hmem : ((vout.map (fun p : Val × List Int => p.1))[t]'(by rw [List.length_map]; exact hlt)).name ∈ onames vout := by unfold onames; exact List.mem_map_of_mem (List.getElem_mem _)
          have OX := hide (fun h => OA.out h _ hmem)
          obtain ⟨A, hA⟩ : ∃ A, A = (vout.map (fun p : Val × List Int => p.1))[t]'(by rw [List.length_map]; exact hlt) := ⟨_, rfl⟩
          rw [← hA] at v0 v1 v2 OX
          clear HLv hA hmem
          obtain ⟨X, aty, ⟨ada, adn, adc⟩⟩ := A
          simp only at v0 v1 v2 OX
          have s0 : wr.cell? ⟨vb, vo + ka, none⟩ = some (.int .i64 (m : Int)) := (World.cell?_of_block (hgr.block vb (World.block_lt_of_cell? w3 _ S0.out) (by simp))).trans S0.out
          have a3 : wr.cell? ⟨b9, off + m * 5 + 3, none⟩ = some (.string Y) := (World.cell?_of_block (hgr.block b9 (World.block_lt_of_cell? w3 _ A3.out) (by simp))).trans A3.out
          cases x with
          | true =>
            have hxy : (X.toList == Y.toList) = false := OX.out rfl
            go_wp2_with fail
            go_quiet (fail)
            go_wp2_with fail
            go_roundg (vout.length - (t + 1))
            case measure => omega
            case rel => exact ⟨t + 1, rfl, by omega, by go_num, grown_drewN hgr _⟩
          | false =>
            cases hxy : (X.toList == Y.toList) with
            | true =>
              go_wp2_with fail
              go_quiet (fail)
              go_wp2_with fail
              go_roundg (vout.length - (t + 1))
              case measure => omega
              case rel => exact ⟨t + 1, rfl, by omega, by go_num, grown_drewN hgr _⟩
            | false =>
              go_wp2_with fail
              go_quiet (fail)
              go_wp2_with fail
              go_roundg (vout.length - (t + 1))
              case measure => omega
              case rel => exact ⟨t + 1, rfl, by omega, by go_num, grown_drewN hgr _⟩
        · obtain rfl : t = vout.length := by omega
          go_wp2_with fail
          clear r0 r1 r2 r3 r4
          refine (LV.out wr (grown_trans G3.out hgr)).mono ?_
          rintro e w4 ⟨rfl, hg4⟩
          go_wp2
          go_ret
          exact ⟨rfl, grown_below (grown_trans (grown_trans G3.out hgr) hg4)⟩
end Go.Proofs.YtmdpeckeliplkaaDoor
