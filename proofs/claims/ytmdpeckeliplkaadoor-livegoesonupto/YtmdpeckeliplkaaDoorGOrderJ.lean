/- The order of work of any graph, by the walk. -/
import Derived.Test.YtmdpeckeliplkaaDoorGChkJ
namespace Go.Proofs.YtmdpeckeliplkaaDoor
open Go.RowKit

/-- The names of a graph's values, in their order. -/
def vnames (cs : List Nc) (vin : List (Val × List Int)) (its : List (Nam × List Int × List Int)) : List ByteArray := (vin.map (·.1)).map (·.name) ++ (its.map (·.1)).map (·.name) ++ (cs.map (·.n)).map (·.out)

def onames (vout : List (Val × List Int)) : List ByteArray := (vout.map (·.1)).map (·.name)

theorem vnames_len (cs : List Nc) (vin : List (Val × List Int)) (its : List (Nam × List Int × List Int)) : (vnames cs vin its).length = vin.length + its.length + cs.length := by simp [vnames, Nat.add_assoc]

/-- A graph that comes in, whose names are not too long. -/
structure GraphOk (w : World) (g : Gra) (cs : List Nc) (vin vout : List (Val × List Int)) (its : List (Nam × List Int × List Int)) : Prop where
  base : GraphIn w g cs vin vout its
  vs : ∀ x ∈ vnames cs vin its, x.size ≤ 1048576
  os : ∀ x ∈ onames vout, x.size ≤ 1048576
  is : ∀ c ∈ cs, c.ins.length ≤ 1048576 ∧ ∀ x ∈ c.ins, x.size ≤ 1048576

theorem GraphOk.more {w w' : World} {g : Gra} {cs : List Nc} {vin vout : List (Val × List Int)} {its : List (Nam × List Int × List Int)} (h : GraphOk w g cs vin vout its) (hg : w.grownBy w' none) : GraphOk w' g cs vin vout its :=
  ⟨h.base.more hg, h.vs, h.os, h.is⟩

/-- The nodes in their order, as far as there is one. -/
def lineF (cs : List Nc) (vin : List (Val × List Int)) (its : List (Nam × List Int × List Int)) : List Int :=
  ordF cs.length (linksN cs (vnames cs vin its) (vin.length + its.length) cs.length).1 (linksN cs (vnames cs vin its) (vin.length + its.length) cs.length).2

/-- What Order answers. -/
def orderR (cs : List Nc) (vin vout : List (Val × List Int)) (its : List (Nam × List Int × List Int)) : List Int × Int :=
  if manyF cs.length vin.length vout.length its.length = true then ([], 6)
  else if partsF cs vin its ≠ 0 then ([], partsF cs vin its)
  else if (namesOK [] (vnames cs vin its) && foundF cs (onames vout) (vnames cs vin its)) = false then ([], 4)
  else if (lineF cs vin its).length < cs.length then ([], 4)
  else (lineF cs vin its, 0)

theorem Lk.rds {w : World} {base Bw Br n : Nat} {p : List Int × List (List Int)} {rs : List Sl} (h : Lk w base Bw Br p rs) (hn : p.2.length = n) : Rds w ⟨some ⟨Br, 0, none⟩, n, n⟩ p.2 Bw := by
  refine ⟨hn.symm, fun k hk => ⟨Br, 0, rs.getD k nilS, rfl, fun wx hx => ?_⟩⟩
  have hB := (World.ownsRow.lt h.row Br rfl).2
  have hb : wx.heap[Br]? = w.heap[Br]? := hx.block Br hB (fun e => by injection e with e; exact h.ne e.symm)
  have hl : k < rs.length := by rw [h.len]; exact hk
  refine ⟨?_, ((h.each k hk).more hx (some_or fun g e => by have := (h.apart k hk g e).1; simpa using this)).ints⟩
  rw [Nat.zero_add]
  refine (World.cell?_of_block hb).trans ((World.ownsRow.cellAt h.row k (by omega)).trans ?_)
  rw [List.getElem?_map, List.getElem?_eq_getElem hl, List.getD, List.getElem?_eq_getElem hl]
  rfl

theorem linksN_lb (cs : List Nc) (l : List ByteArray) (k0 : Nat) (hl : l.length = k0 + cs.length) (hin : ∀ c ∈ cs, c.ins.length ≤ 1048576 ∧ ∀ x ∈ c.ins, inL x l = true) : ∀ k, k ≤ cs.length → LB cs.length (k * 1048576) (linksN cs l k0 k)
  | 0, _ => by
    rw [Nat.zero_mul]
    exact LB.start cs.length
  | k + 1, hk => by
    have ih := linksN_lb cs l k0 hl hin k (by omega)
    have hc := hin cs[k] (List.getElem_mem (by omega))
    have e : linksN cs l k0 (k + 1) = lnkRow l k0 k (linksN cs l k0 k) cs[k].ins := by
      rw [linksN, List.getElem?_eq_getElem (by omega)]
      rfl
    have st : ∀ t, t ≤ cs[k].ins.length → LB cs.length (k * 1048576 + t) (lnkRow l k0 k (linksN cs l k0 k) (cs[k].ins.take t)) := by
      intro t
      induction t with
      | zero => intro _; rw [List.take_zero]; exact ih.le (Nat.le_add_right _ _)
      | succ t iht =>
        intro ht
        rw [lnkRow_step _ _ _ _ _ (by omega)]
        have hp := pos_lt (hc.2 (cs[k].ins[t]'(by omega)) (List.getElem_mem _))
        exact ((iht (by omega)).step (by omega) (by omega)).le (by omega)
    have fin := st cs[k].ins.length (Nat.le_refl _)
    rw [List.take_of_length_le (Nat.le_refl _), ← e] at fin
    exact fin.le (by have := hc.1; omega)

set_option maxRecDepth 100000 in
set_option maxHeartbeats 6400000 in
theorem order_any (g : Gra) (cs : List Nc) (vin vout : List (Val × List Int)) (its : List (Nam × List Int × List Int)) (w : World) (hl : Laid w) (hg : GraphOk w g cs vin vout its) :
    Calls Tryd.prog 39 #[gval g] w fun e w' => ∃ u : Sl, e = .returned (.tuple #[u.v, .int .i64 (orderR cs vin vout its).2]) ∧ Owns w' w.heap.size u.v (orderR cs vin vout its).1 ∧ w.grownBy w' none := by
  obtain ⟨f1, f2, f3, f4⟩ := hg.base.few
  have e1 : g.nv.n = cs.length := by obtain ⟨_, _, e, -⟩ := hg.base.nodes.form; rw [List.length_map] at e; simp only [Sl.v, Value.slice.injEq] at e; exact e.2.1
  have e2 : g.iv.n = vin.length := by obtain ⟨_, _, e, -⟩ := hg.base.ins.form; rw [List.length_map] at e; simp only [Sl.v, Value.slice.injEq] at e; exact e.2.1
  have e3 : g.ov.n = vout.length := by obtain ⟨_, _, e, -⟩ := hg.base.outs.form; rw [List.length_map] at e; simp only [Sl.v, Value.slice.injEq] at e; exact e.2.1
  have e4 : g.tv.n = its.length := by obtain ⟨_, _, e, -⟩ := hg.base.inits.form; rw [List.length_map] at e; simp only [Sl.v, Value.slice.injEq] at e; exact e.2.1
  have LV := hide (vnames_len cs vin its)
  have TM := hide (fun wx : World => toomany_any g wx (by omega) (by omega) (by omega) (by omega))
  rw [e1, e2, e3, e4] at TM
  have CP := hide (fun (wx : World) (hx : w.grownBy wx none) => checkparts_any g cs vin vout its wx (hl.more hx) (hg.base.more hx))
  have VN := hide (fun (wx : World) (hx : w.grownBy wx none) => valuenames_any g (cs.map (·.n)) (vin.map (·.1)) (vout.map (·.1)) (its.map (·.1)) wx (hg.base.nodes.more hx) (hg.base.ins.more hx) (hg.base.outs.more hx) (hg.base.inits.more hx) ⟨by rw [List.length_map]; exact f1, by rw [List.length_map]; exact f2, by rw [List.length_map]; exact f3, by rw [List.length_map]; exact f4⟩)
  rw [show (vin.map (·.1)).map (·.name) ++ (its.map (·.1)).map (·.name) ++ (cs.map (·.n)).map (·.out) = vnames cs vin its from rfl] at VN
  have NU := hide (fun (v : Value) (wx : World) (hv : IsStrs wx v (vnames cs vin its)) => numbered_any v (vnames cs vin its) wx hv hg.vs)
  have NF := hide (fun (b : Nat) (wx : World) (hx : w.grownBy wx none) (hn : Nums wx b (vnames cs vin its)) => namesfound_any g cs (vin.map (·.1)) (vout.map (·.1)) (its.map (·.1)) b (vnames cs vin its) wx (hg.base.nodes.more hx) (hg.base.ins.more hx) (hg.base.outs.more hx) (hg.base.inits.more hx) ⟨by rw [List.length_map]; exact f1, by rw [List.length_map]; exact f2, by rw [List.length_map]; exact f3, by rw [List.length_map]; exact f4⟩ (fun c hc => ⟨(hg.base.node c hc).ins.more hx, (hg.is c hc).2⟩) (by exact hg.os) hn)
  rw [show (vout.map (·.1)).map (·.name) = onames vout from rfl] at NF
  have LI := hide (fun (b : Nat) (wx : World) (hx : w.grownBy wx none) (h1 : cs.length ≤ 1024) (hfo : foundF cs (onames vout) (vnames cs vin its) = true) (hn : Nums wx b (vnames cs vin its)) => linksof_any g cs (vin.map (·.1)) (its.map (·.1)) b (vnames cs vin its) wx (hg.base.nodes.more hx) (hg.base.ins.more hx) (hg.base.inits.more hx) ⟨h1, by rw [List.length_map]; exact f2, by rw [List.length_map]; exact f4⟩ (fun c hc => ⟨(hg.base.node c hc).ins.more hx, (hg.is c hc).1, fun x hxx => ⟨(hg.is c hc).2 x hxx, by
    unfold foundF at hfo
    simp only [Bool.and_eq_true, List.all_eq_true] at hfo
    have := hfo.2 c hc
    unfold allF at this
    rw [List.all_eq_true] at this
    exact this x hxx⟩⟩) (by rw [List.length_map, List.length_map]; exact vnames_len cs vin its) hn)
  simp only [List.length_map] at LI
  have LBD := hide (fun (hfo : foundF cs (onames vout) (vnames cs vin its) = true) => linksN_lb cs (vnames cs vin its) (vin.length + its.length) (vnames_len cs vin its) (fun c hc => ⟨(hg.is c hc).1, fun x hxx => by
    unfold foundF at hfo
    simp only [Bool.and_eq_true, List.all_eq_true] at hfo
    have := hfo.2 c hc
    unfold allF at this
    rw [List.all_eq_true] at this
    exact this x hxx⟩) cs.length (Nat.le_refl _))
  have HR : Hid (orderR cs vin vout its = if manyF cs.length vin.length vout.length its.length = true then ([], 6) else if partsF cs vin its ≠ 0 then ([], partsF cs vin its) else if (namesOK [] (vnames cs vin its) && foundF cs (onames vout) (vnames cs vin its)) = false then ([], 4) else if (lineF cs vin its).length < cs.length then ([], 4) else (lineF cs vin its, 0)) := rfl
  have HLF : Hid (lineF cs vin its = ordF cs.length (linksN cs (vnames cs vin its) (vin.length + its.length) cs.length).1 (linksN cs (vnames cs vin its) (vin.length + its.length) cs.length).2) := rfl
  have NIL : Hid (∀ wx : World, Owns wx w.heap.size (.slice none 0 0) []) := fun wx => ⟨World.ownsRow_nil _ _ _ _, by simp, by simp⟩
  have HM : Hid (manyF cs.length vin.length vout.length its.length = false → cs.length ≤ 1024) := fun h => by
    unfold manyF at h
    simp only [Bool.or_eq_false_iff, decide_eq_false_iff_not] at h
    omega
  obtain ⟨V, hV⟩ : ∃ V, V = vnames cs vin its := ⟨_, rfl⟩
  obtain ⟨O, hO⟩ : ∃ O, O = onames vout := ⟨_, rfl⟩
  obtain ⟨LF, hLF⟩ : ∃ LF, LF = lineF cs vin its := ⟨_, rfl⟩
  obtain ⟨PF, hPF⟩ : ∃ PF, PF = partsF cs vin its := ⟨_, rfl⟩
  obtain ⟨OR, hOR⟩ : ∃ OR, OR = orderR cs vin vout its := ⟨_, rfl⟩
  rw [← hV] at VN NU NF LI LBD HR HLF LV
  rw [← hO] at NF LI LBD HR
  rw [← hLF] at HR HLF
  rw [← hPF] at HR CP
  rw [← hOR] at HR ⊢
  obtain ⟨MF, hMF⟩ : ∃ MF, MF = manyF cs.length vin.length vout.length its.length := ⟨_, rfl⟩
  rw [← hMF] at TM HR HM
  have HE1 := hide e1
  clear hV hO hLF hPF hOR hMF hl hg e1 e2 e3 e4
  obtain ⟨nam, ⟨na0, nn0, nc0⟩, ⟨ia, iN, ic⟩, ⟨oa, oN, oc⟩, ⟨ta, tN, tc⟩⟩ := g
  unfold gval at TM CP VN NF LI ⊢
  simp only at TM CP VN NF LI ⊢
  have HE1 : Hid (nn0 = cs.length) := HE1.out
  rw [HE1.out] at TM CP VN NF LI ⊢
  obtain ⟨w0, hw0⟩ : ∃ w0, w0 = w.alloc (.cells #[.string nam, .slice na0 cs.length nc0, .slice ia iN ic, .slice oa oN oc, .slice ta tN tc] 26) := ⟨_, rfl⟩
  have g0 : w.grownBy w0 none := by rw [hw0]; exact grown_new _ _
  have b0 := heap_alloc_new w (.cells #[.string nam, .slice na0 cs.length nc0, .slice ia iN ic, .slice oa oN oc, .slice ta tN tc] 26)
  rw [← hw0] at b0
  have BX : Hid (∀ wx, w0.grownBy wx none → wx.heap[w.heap.size]? = some (.cells #[.string nam, .slice na0 cs.length nc0, .slice ia iN ic, .slice oa oN oc, .slice ta tN tc] 26 (0, 0))) := fun wx hx => box_kept b0 hx
  clear b0
  obtain ⟨r0, r1, r2, r3, r4⟩ := gra_cells (g := ⟨nam, ⟨na0, cs.length, nc0⟩, ⟨ia, iN, ic⟩, ⟨oa, oN, oc⟩, ⟨ta, tN, tc⟩⟩) (BX.out w0 (grown_refl _))
  rw [hw0] at r0 r1 r2 r3 r4
  go_enter Tryd.func39, Tryd.ntmps39
  go_wp2_with fail
  rw [← hw0]
  clear hw0 r0 r1 r2 r3 r4
  refine (TM.out w0).mono ?_
  rintro e w1 ⟨rfl, hg1⟩
  cases MF with
  | true =>
    have E : Hid (OR = ([], 6)) := by show _ = _; rw [HR.out, if_pos rfl]
    go_wp2
    go_ret2
    exact ⟨nilS, by rw [E.out]; rfl, by rw [E.out]; exact NIL.out _, grown_trans g0 hg1⟩
  | false =>
    have h1024 : Hid (cs.length ≤ 1024) := HM.out rfl
    have HR1 : Hid (OR = if PF ≠ 0 then ([], PF) else if (namesOK [] V && foundF cs O V) = false then ([], 4) else if LF.length < cs.length then ([], 4) else (LF, 0)) := by show _ = _; rw [HR.out, if_neg (by decide)]
    clear HR HM
    obtain ⟨r0, r1, r2, r3, r4⟩ := gra_cells (g := ⟨nam, ⟨na0, cs.length, nc0⟩, ⟨ia, iN, ic⟩, ⟨oa, oN, oc⟩, ⟨ta, tN, tc⟩⟩) (BX.out w1 hg1)
    go_wp2_with fail
    clear r0 r1 r2 r3 r4
    refine (CP.out w1 (grown_trans g0 hg1)).mono ?_
    rintro e w2 ⟨rfl, hg2⟩
    have g02 := grown_trans hg1 hg2
    by_cases hz : PF = 0
    · have HR2 : Hid (OR = if (namesOK [] V && foundF cs O V) = false then ([], 4) else if LF.length < cs.length then ([], 4) else (LF, 0)) := by show _ = _; rw [HR1.out, if_neg (by simpa using hz)]
      clear HR1
      rw [hz]
      clear hz
      obtain ⟨r0, r1, r2, r3, r4⟩ := gra_cells (g := ⟨nam, ⟨na0, cs.length, nc0⟩, ⟨ia, iN, ic⟩, ⟨oa, oN, oc⟩, ⟨ta, tN, tc⟩⟩) (BX.out w2 g02)
      go_wp2_with fail
      clear r0 r1 r2 r3 r4
      refine (VN.out w2 (grown_trans g0 g02)).mono ?_
      rintro e w3 ⟨⟨ua, un, uc⟩, rfl, hown, hg3⟩
      have g03 := grown_trans g02 hg3
      have IS := hide (hown.isL (bytes := 16) scell_len (by have := LV.out; omega))
      clear hown
      unfold Sl.v at IS ⊢
      simp only at IS ⊢
      go_wp2_with fail
      refine (NU.out _ w3 IS.out).mono ?_
      rintro e w4 ⟨hg4, hh⟩
      have g04 := grown_trans g03 hg4
      obtain ⟨r0, r1, r2, r3, r4⟩ := gra_cells (g := ⟨nam, ⟨na0, cs.length, nc0⟩, ⟨ia, iN, ic⟩, ⟨oa, oN, oc⟩, ⟨ta, tN, tc⟩⟩) (BX.out w4 g04)
      rcases hh with ⟨hok, b, hb, rfl, hnum⟩ | ⟨hno, rfl⟩
      · have HOK := hide hok
        have HNU := hide hnum
        clear hok hnum hb
        go_wp2_with fail
        clear r0 r1 r2 r3 r4
        refine (NF.out b w4 (grown_trans g0 g04) HNU.out).mono ?_
        rintro e w5 ⟨rfl, hg5⟩
        have g05 := grown_trans g04 hg5
        obtain ⟨r0, r1, r2, r3, r4⟩ := gra_cells (g := ⟨nam, ⟨na0, cs.length, nc0⟩, ⟨ia, iN, ic⟩, ⟨oa, oN, oc⟩, ⟨ta, tN, tc⟩⟩) (BX.out w5 g05)
        cases hfo : foundF cs O V with
        | false =>
          have E : Hid (OR = ([], 4)) := by show _ = _; rw [HR2.out, if_pos (by rw [hfo]; simp)]
          clear hfo
          go_wp2
          go_ret2
          exact ⟨nilS, by rw [E.out]; rfl, by rw [E.out]; exact NIL.out _, grown_trans g0 g05⟩
        | true =>
          have HFO := hide hfo
          have HR3 : Hid (OR = if LF.length < cs.length then ([], 4) else (LF, 0)) := by show _ = _; rw [HR2.out, if_neg (by rw [hfo, HOK.out]; decide)]
          clear hfo HR2
          go_wp2_with fail
          clear r0 r1 r2 r3 r4
          refine (LI.out b w5 (grown_trans g0 g05) h1024.out HFO.out (HNU.out.more hg5)).mono ?_
          rintro e w6 ⟨Bw, Br, rs, rfl, hlk, hg6⟩
          have g06 := grown_trans g05 hg6
          have hlb := LBD.out HFO.out
          have hbase := (World.ownsRow.lt hlk.own Bw rfl).1
          have HIOx := hide (inorder_any Bw w5.heap.size ⟨some ⟨Br, 0, none⟩, cs.length, cs.length⟩ _ _ w6 hlk.own (hlk.rds hlb.l2) (hlb.l2.trans hlb.l1.symm) (fun r hr => ⟨by have := (hlb.b2 r hr).1; have := h1024.out; omega, fun z hz => by rw [hlb.l1]; exact (hlb.b2 r hr).2 z hz⟩) (fun z hz => by have := hlb.b1 z hz; have := h1024.out; omega) (by rw [hlb.l1]; have := h1024.out; omega))
          rw [hlb.l1, ← HLF.out] at HIOx
          clear hlb hlk
          go_wp2_with fail
          refine HIOx.out.mono ?_
          rintro e w7 ⟨⟨oa7, on7, oc7⟩, rfl, ho7, hg7⟩
          obtain ⟨oa', oc', ho⟩ := own_form ho7.1
          obtain ⟨rfl, rfl, rfl⟩ : oa7 = oa' ∧ on7 = LF.length ∧ oc7 = oc' := by simpa [Sl.v] using ho
          have HO7 := hide ho7
          have g07 : w0.grownBy w7 none := grown_trans_row g06 hg7 (fun g e => by injection e with e; have := g05.size; omega)
          have hsz : w.heap.size ≤ w6.heap.size := by have := g0.size; have := g06.size; omega
          clear ho ho7
          unfold Sl.v
          simp only
          obtain ⟨r0, r1, r2, r3, r4⟩ := gra_cells (g := ⟨nam, ⟨na0, cs.length, nc0⟩, ⟨ia, iN, ic⟩, ⟨oa, oN, oc⟩, ⟨ta, tN, tc⟩⟩) (BX.out w7 g07)
          by_cases hlen : LF.length < cs.length
          · have E : Hid (OR = ([], 4)) := by show _ = _; rw [HR3.out, if_pos hlen]
            have hlen' : (LF.length : Int) < (cs.length : Int) := by omega
            clear hlen
            go_wp2
            go_ret2
            exact ⟨nilS, by rw [E.out]; rfl, by rw [E.out]; exact NIL.out _, grown_trans g0 g07⟩
          · have E : Hid (OR = (LF, 0)) := by show _ = _; rw [HR3.out, if_neg hlen]
            have hlen' : ¬ (LF.length : Int) < (cs.length : Int) := by omega
            clear hlen
            go_wp2
            go_ret2
            exact ⟨⟨oa7, LF.length, oc7⟩, by rw [E.out]; rfl, by rw [E.out]; exact HO7.out.base_le hsz, grown_trans g0 g07⟩
      · have E : Hid (OR = ([], 4)) := by show _ = _; rw [HR2.out, if_pos (by rw [hno]; rfl)]
        clear hno
        go_wp2
        go_ret2
        exact ⟨nilS, by rw [E.out]; rfl, by rw [E.out]; exact NIL.out _, grown_trans g0 g04⟩
    · have E : Hid (OR = ([], PF)) := by show _ = _; rw [HR1.out, if_pos hz]
      have hzb : (PF != 0) = true := by simpa using hz
      go_wp2
      go_ret2
      exact ⟨nilS, by rw [E.out]; rfl, by rw [E.out]; exact NIL.out _, grown_trans g0 g02⟩
end Go.Proofs.YtmdpeckeliplkaaDoor
