/- Joined texts: EMade, EDo, EOut, EElem, EPure. -/
import Derived.Test.YtnifbdcgobnjeaaGreatDoorEAsJ
import Derived.Test.YtnifbdcgobnjeaaGreatDoorEWorkJ
import Derived.Test.YtnifbdcgobnjeaaGreatDoorPartS
import Derived.Test.YtnifbdcgobnjeaaGreatDoorPartR
import Derived.Test.YtnifbdcgobnjeaaGreatDoorPartQ
import Derived.Test.YtnifbdcgobnjeaaGreatDoorPartO
/- elem.made, by the walk. -/
namespace Go.Proofs.YtnifbdcgobnjeaaGreatDoor
open Go.RowKit

/-- What comes out, of the columns. -/
def evL (F : List Int → Int × Int) (cs : List (List Int)) : Nat → Nat → R (List Int)
  | _, 0 => .ok []
  | k, m + 1 => if (F (cs.map (·.getD k 0))).2 = 0 then (evL F cs (k + 1) m).map ((F (cs.map (·.getD k 0))).1 :: ·) else .error (F (cs.map (·.getD k 0))).2

theorem evE_evL (F : List Int → Int × Int) (cols : List (Sl × List Int)) : ∀ (m k : Nat), evE F cols k m = evL F (cols.map (·.2)) k m
  | 0, _ => rfl
  | m + 1, k => by
    have h : colAt cols k = (cols.map (·.2)).map (·.getD k 0) := by unfold colAt; rw [List.map_map]; rfl
    simp only [evE, evL, h, evE_evL F cols m (k + 1)]

def colP (l : List Int) (p : Ten × Tq) : List Int := asL p.2.1 p.2.2 l
def asOk (l : List Int) (p : Ten × Tq) : Bool := asE p.2.1 p.2.2 l == 0
def firstA (l : List Int) : List (Ten × Tq) → Int
  | [] => 0
  | p :: ps => if asOk l p = true then firstA l ps else asE p.2.1 p.2.2 l

def madeR (F : List Int → Int × Int) (ps : List (Ten × Tq)) (l : List Int) (N : Nat) : R (List Int) := if ps.all (asOk l) = true then evL F (ps.map (colP l)) 0 N else .error (firstA l ps)

theorem firstA_at {l : List Int} : ∀ {ps : List (Ten × Tq)} {k : Nat} (hk : k < ps.length), (ps.take k).all (asOk l) = true → asOk l ps[k] = false → firstA l ps = asE ps[k].2.1 ps[k].2.2 l ∧ ps.all (asOk l) = false
  | [], k, hk, _, _ => by simp at hk
  | p :: ps, 0, _, _, h => by
    simp only [List.getElem_cons_zero] at h ⊢
    simp [firstA, h]
  | p :: ps, k + 1, hk, ha, h => by
    simp only [List.take_succ_cons, List.all_cons, Bool.and_eq_true] at ha
    simp only [List.getElem_cons_succ] at h ⊢
    obtain ⟨h1, h2⟩ := firstA_at (by simpa using hk) ha.2 h
    simp [firstA, ha.1, h1, h2]

theorem scellS_one (s : Sl) : ∀ u ∈ scellS s, u.oneCell' = true := by
  intro u hu
  simp only [scellS, List.mem_cons, List.not_mem_nil, or_false] at hu
  rcases hu with rfl
  rfl

theorem infoColE : (Tryz.prog.info? 23).map (fun i => (i.zero, i.size, i.bytes)) = some (some (.slice none 0 0), 1, 24) := by kernel_rfl

/-- Two lists whose elements are of other types do not lie in one block. -/
theorem apart_te {w : World} {b1 b2 t1 t2 s1 s2 n1 n2 : Nat} {v1 v2 : Value} {c1 c2 : List Value} (h1 : w.ownsRow b1 t1 s1 v1 n1 c1) (h2 : w.ownsRow b2 t2 s2 v2 n2 c2) (ht : t1 ≠ t2) : v1.ownBlock = none ∨ v1.ownBlock ≠ v2.ownBlock := by
  rcases h1.2 with ⟨e, -⟩ | ⟨g, cap, cur, e, -, hg, -⟩
  · exact .inl (by rw [e]; rfl)
  · rcases h2.2 with ⟨e', -⟩ | ⟨g', cap', cur', e', -, hg', -⟩
    · exact .inr (by rw [e, e']; simp [Value.ownBlock])
    · refine .inr ?_
      rw [e, e']
      simp only [Value.ownBlock, ne_eq, Option.some.injEq]
      rintro rfl
      rw [hg] at hg'
      simp only [Option.some.injEq, Obj.cells.injEq] at hg'
      exact ht hg'.2.1

def BoxN (w : World) (B : Nat) (n : Nod) : Prop := w.heap[B]? = some (.cells #[.string n.op, .string n.name, .slice n.iv.a n.iv.n n.iv.c, .string n.out, .slice n.av.a n.av.n n.av.c] 35 (0, 0))
def BoxT (w : World) (B : Nat) (u : Sl) : Prop := w.heap[B]? = some (.cells #[.slice u.a u.n u.c] 27 (0, 0))

set_option maxRecDepth 100000 in
set_option maxHeartbeats 8000000 in
theorem made_one (n : Nod) (hop : n.op ∈ ([⟨#[78, 111, 116]⟩] : List ByteArray)) (u : Sl) (ps : List (Ten × Tq)) (nam0 : ByteArray) (vty : Int) (dv : Sl) (l : List Int) (F : List Int → Int × Int) (N : Nat) (w : World) (hv : TensIn w u.v ps) (hp0 : 0 < ps.length) (hp1 : ps.length ≤ 1000) (hd : IsInts w dv.v l) (hN : N ≤ 65536) (hL : ∀ p ∈ ps, asOk l p = true → (colP l p).length = N) (hF : ∀ xs, -9223372036854775808 ≤ (F xs).1 ∧ (F xs).1 ≤ 9223372036854775807)
    (WC : ∀ (wx : World) (p1 p2 B : Nat) (xs : List Int), w.grownBy wx none → BoxN wx p1 n → BoxT wx p2 u → xs.length = ps.length → IsInts wx (.slice (some ⟨B, 0, none⟩) ps.length ps.length) xs → Calls Tryz.prog 19 #[.slice (some ⟨B, 0, none⟩) ps.length ps.length, .pointer (some ⟨p1, 0, none⟩), .pointer (some ⟨p2, 0, none⟩)] wx fun e w' => e = .returned (.tuple #[.int .i64 (F xs).1, .int .i64 (F xs).2]) ∧ ∃ q, w' = wx.drewN q) :
    Calls Tryz.prog 10 #[nval n, .slice u.a u.n u.c, .agg #[.string nam0, .int .i64 vty, .slice dv.a dv.n dv.c]] w (EvQ w (madeR F ps l N)) := by
  obtain ⟨i0, hi, hz0, hz1, hz2⟩ := info_parts infoColE
  obtain ⟨xa, xc, e1, p1, p2, p3⟩ := hv.vals.form
  rw [List.length_map] at e1 p1 p3
  obtain ⟨ua, un, uc⟩ := u
  simp only [Sl.v, Value.slice.injEq] at e1
  obtain ⟨rfl, rfl, rfl⟩ := e1
  have HV := hide hv
  have HD := hide hd
  have HLN := hide hL
  have HF := hide hF
  have HWC := hide WC
  clear hv hd hL hF WC
  obtain ⟨w0, hw0⟩ : ∃ w0, w0 = (w.alloc (.cells #[.string n.op, .string n.name, .slice n.iv.a n.iv.n n.iv.c, .string n.out, .slice n.av.a n.av.n n.av.c] 35)).alloc (.cells #[.string nam0, .int .i64 vty, .slice dv.a dv.n dv.c] 43) := ⟨_, rfl⟩
  have g0 : Hid (w.grownBy w0 none) := by show w.grownBy w0 none; rw [hw0]; exact grown_trans (grown_new _ _) (grown_new _ _)
  have hbx := two_boxes w (.cells #[.string n.op, .string n.name, .slice n.iv.a n.iv.n n.iv.c, .string n.out, .slice n.av.a n.av.n n.av.c] 35) (.cells #[.string nam0, .int .i64 vty, .slice dv.a dv.n dv.c] 43)
  rw [← hw0] at hbx
  have BX : Hid (∀ wx, w0.grownBy wx none → wx.heap[w.heap.size + 1]? = some (.cells #[.string nam0, .int .i64 vty, .slice dv.a dv.n dv.c] 43 (0, 0))) := fun wx hg => box_kept hbx.2 hg
  have WO := hide (workof1_any n hop ⟨ua, ps.length, uc⟩ (.string nam0) (.int .i64 vty) (.slice dv.a dv.n dv.c) w0)
  clear hbx
  obtain ⟨dva, dvn, dvc⟩ := dv
  obtain ⟨op, nam, ⟨ia, il, ic⟩, out, ⟨ao, al, cap⟩⟩ := n
  unfold nval at WO ⊢
  simp only at WO BX hw0 ⊢
  go_enter Tryz.func10, Tryz.ntmps10
  go_wp2_with fail
  rw [← hw0]
  clear hw0
  refine WO.out.mono ?_
  rintro e w1 ⟨rfl, hg1, hb1, hb2⟩
  have G1 := hide hg1
  have BN : Hid (∀ wx, w1.grownBy wx none → BoxN wx w0.heap.size ⟨op, nam, ⟨ia, il, ic⟩, out, ⟨ao, al, cap⟩⟩ ∧ BoxT wx (w0.heap.size + 1) ⟨ua, ps.length, uc⟩) := fun wx hg => ⟨box_kept hb1 hg, box_kept hb2 hg⟩
  clear hg1 hb1 hb2
  have hbo : ∀ wx, (binOp .eql 48 (.func (.func 19) #[] #[.pointer (some ⟨w0.heap.size, 0, none⟩), .pointer (some ⟨w0.heap.size + 1, 0, none⟩)]) .nilFunc).run Tryz.prog wx = .ok (.bool false) wx := fun wx => by rfl
  obtain ⟨q1, hq1⟩ : ∃ q, q = w0.heap.size := ⟨_, rfl⟩
  obtain ⟨q2, hq2⟩ : ∃ q, q = w0.heap.size + 1 := ⟨_, rfl⟩
  rw [← hq2, ← hq1] at BN hbo ⊢
  clear hq1 hq2
  go_wp2_with fail
  go_loopw [9, 22] (fun v i wr => w1.grownBy wr none ∧ ∃ (k : Nat) (va : Option Addr) (vc : Nat) (cols : List (Sl × List Int)), k ≤ ps.length ∧ i = .int .i64 k ∧ v = .slice va k vc ∧ cols.length = k ∧ cols.map (·.2) = (ps.take k).map (colP l) ∧ (ps.take k).all (asOk l) = true ∧ OwnsL 23 1 scellS wr w1.heap.size (.slice va k vc) (cols.map (·.1)) ∧ ∀ c ∈ cols, OwnsE wr w1.heap.size c.1.v c.2) (fun _ i _ => ps.length - (intOf i).toNat)
  case atStart => exact ⟨grown_refl _, 0, none, 0, [], Nat.zero_le _, rfl, rfl, rfl, rfl, rfl, OwnsL.nil .., fun c hc => by simp at hc⟩
  case round =>
    obtain ⟨hg, k, va, vc, cols, hk, rfl, rfl, hcl, hcm, hall, hown, hin⟩ := hrel
    have HG := hide hg
    have HO := hide hown
    have HAL := hide hall
    have HCL := hide hcl
    have HCM := hide hcm
    have HIN := hide hin
    clear hown hall hcl hcm hin
    have gw := hide (grown_trans g0.out (grown_trans G1.out hg))
    by_cases hlt : k < ps.length
    · obtain ⟨b, off, rfl⟩ := HV.out.vals.addr (k := k) (by rw [List.length_map]; exact hlt)
      obtain ⟨a0, a1, a2⟩ := (HV.out.more gw.out).at k hlt
      have HH := hide (HV.out.has ps[k] (List.getElem_mem hlt))
      have HT : Hid ((ps.take (k + 1)).all (asOk l) = ((ps.take k).all (asOk l) && asOk l ps[k])) := by
        show _ = _
        rw [List.take_add_one, List.all_append, List.getElem?_eq_getElem hlt]
        simp
      have HM : Hid ((ps.take (k + 1)).map (colP l) = (ps.take k).map (colP l) ++ [colP l ps[k]]) := by
        show _ = _
        rw [List.take_add_one, List.map_append, List.getElem?_eq_getElem hlt]
        rfl
      have HBAD : Hid (asOk l ps[k] = false → madeR F ps l N = .error (asE ps[k].2.1 ps[k].2.2 l)) := fun h => by
        obtain ⟨h1, h2⟩ := firstA_at hlt HAL.out h
        unfold madeR
        rw [if_neg (by simp [h2]), h1]
      obtain ⟨p, hp⟩ : ∃ p, p = ps[k] := ⟨_, rfl⟩
      rw [← hp] at a0 a1 a2 HH HT HM HBAD
      obtain ⟨⟨ty, ⟨da, dn, dc⟩, ⟨ta, tn, tc⟩⟩, ⟨ds, ts⟩⟩ := p
      simp only at a0 a1 a2 HH HBAD
      obtain ⟨w2, hw2⟩ : ∃ w2, w2 = wr.alloc (.cells #[.int .i64 ty, .slice da dn dc, .slice ta tn tc] 25) := ⟨_, rfl⟩
      have g2 : Hid (wr.grownBy w2 none) := by show wr.grownBy w2 none; rw [hw2]; exact grown_new _ _
      have B2 := BX.out w2 (grown_trans (grown_trans G1.out hg) g2.out)
      have v2 : w2.cell? ⟨w.heap.size + 1, 2, none⟩ = some (.slice dva dvn dvc) := (cell_of_row _ _ 2 _ _ (0, 0) B2).trans rfl
      rw [hw2] at v2
      have AS := hide (as_any ⟨ty, ⟨da, dn, dc⟩, ⟨ta, tn, tc⟩⟩ ds ts l ⟨dva, dvn, dvc⟩ w2 ((HH.out.1.more gw.out).more g2.out) ((HH.out.2.more gw.out).more g2.out) ((HD.out.more gw.out).more g2.out))
      unfold tval at AS
      simp only at AS
      clear B2 hp hg
      go_wp2_with fail
      rw [← hw2]
      clear hw2 a0 a1 a2 v2
      refine AS.out.mono ?_
      rintro e w3 ⟨⟨sa, sn, sc⟩, rfl, ho3, hg3⟩
      have G3 := hide (grown_trans (grown_trans HG.out g2.out) hg3)
      have I3 := hide (OwnsE.ints (w := w3) (base := w2.heap.size) ho3)
      have hsz : w1.heap.size ≤ w3.heap.size := G3.out.size
      by_cases hok : asE ds ts l = 0
      · have bo : (asE ds ts l != 0) = false := by simp [hok]
        have HOK := hide hok
        have KL : Hid ((cols.map (·.1)).length = k) := by show _ = _; rw [List.length_map]; exact HCL.out
        have OW : Hid (∀ o, (w3.alloc o).ownsRow w1.heap.size 23 1 (.slice va k vc) k ((cols.map (·.1)).flatMap scellS)) := fun o => owns_row_atE ((HO.out.more (grown_trans g2.out hg3)).more (grown_new _ _)) KL.out
        have GI := hide (grown_trans g2.out hg3)
        have HS : Hid (∀ c ∈ cols ++ [((⟨sa, sn, sc⟩ : Sl), asL ds ts l)], OwnsE (w3.alloc (.cells #[.slice sa sn sc] 23)) w1.heap.size c.1.v c.2) := fun c hc => by
          rcases List.mem_append.1 hc with hc | hc
          · exact (HIN.out c hc).more (grown_trans GI.out (grown_new _ _)) (by cases c.1.v.ownBlock <;> simp)
          · obtain rfl := List.mem_singleton.1 hc
            exact OwnsE.more (w := w3) ⟨ownsRow_base ho3.1 (by have := HG.out.size; have := g2.out.size; omega), ho3.2⟩ (grown_new _ _) (by cases (Sl.v ⟨sa, sn, sc⟩).ownBlock <;> simp)
        clear hok ho3 hg3 AS
        go_wp2_with (at_builtin; refine wpList_append_lies _ rfl (.tmp 36) (.tmp 38) 50 rfl w1.heap.size 23 i0 (.slice none 0 0) 1 24 Tryz.underlying50 hi hz0 hz1 hz2 rfl (by decide) (.slice va k vc) k ((cols.map (·.1)).flatMap scellS) rfl (by exact OW.out _) ⟨w3.heap.size, 0, none⟩ 1 1 (scellS ⟨sa, sn, sc⟩) rfl rfl (by exact World.news_of_block (by have h := heap_alloc_new w3 (.cells #[.slice sa sn sc] 23); simpa using h)) (scellS_one _) (by omega) (by simp only [maxLen]; omega) (by omega) (by simp; omega) (w3.heap.size + 1) (by simp) ?_; intro gg cap8 w8 hown8 hgrow hat hlt8)
        have ST : Hid (w1.grownBy w8 none ∧ OwnsL 23 1 scellS w8 w1.heap.size (.slice (some ⟨gg, 0, none⟩) (k + 1) cap8) ((cols ++ [((⟨sa, sn, sc⟩ : Sl), asL ds ts l)]).map (fun c => c.1)) ∧ (ps.take (k + 1)).all (asOk l) = true ∧ (cols ++ [((⟨sa, sn, sc⟩ : Sl), asL ds ts l)]).map (fun c => c.2) = (ps.take (k + 1)).map (colP l) ∧ ∀ c ∈ cols ++ [((⟨sa, sn, sc⟩ : Sl), asL ds ts l)], OwnsE w8 w1.heap.size c.1.v c.2) := ⟨grown_trans_row (grown_trans G3.out (grown_new _ _)) hgrow (fun r e => (World.ownsRow.lt HO.out r e).1), by rw [List.map_append]; exact owns_at_rowE KL.out hown8, by rw [HT.out, HAL.out]; simp [asOk, HOK.out], by rw [HM.out, List.map_append, HCM.out]; rfl, fun c hc => by
          have h9 := HS.out c hc
          exact ⟨h9.1.kept hgrow (apart_te h9.1 (OW.out _) (by decide)), h9.2⟩⟩
        clear hown8 hgrow hat hlt8
        go_wp2_with fail
        go_roundw
        case rel => exact ⟨ST.out.1, k + 1, _, _, _, by omega, by go_num, rfl, by rw [List.length_append, HCL.out]; rfl, ST.out.2.2.2.1, ST.out.2.2.1, ST.out.2.1, ST.out.2.2.2.2⟩
        case measure => simp [intOf]; omega
      · have bo : (asE ds ts l != 0) = true := by simpa using hok
        have E : Hid (madeR F ps l N = .error (asE ds ts l)) := HBAD.out (by simpa [asOk] using hok)
        have GF := hide (grown_trans (grown_trans g0.out G1.out) G3.out)
        clear hok ho3 hg3 AS
        go_wp2
        go_ret2
        exact ev_err E.out GF.out
    · obtain rfl : k = ps.length := by omega
      have HOF := HO.out
      have EQ : Hid (madeR F ps l N = evE F cols 0 N) := by
        show _ = _
        have h1 := HAL.out
        have h2 := HCM.out
        rw [List.take_of_length_le (Nat.le_refl _)] at h1 h2
        unfold madeR
        rw [if_pos h1, evE_evL, h2]
      have CI : ∀ c ∈ cols, IsInts wr c.1.v c.2 ∧ c.2.length = N := fun c hc => ⟨(HIN.out c hc).ints, by
        have h1 := HAL.out
        have h2 := HCM.out
        rw [List.take_of_length_le (Nat.le_refl _)] at h1 h2
        have h3 : c.2 ∈ cols.map (·.2) := List.mem_map.2 ⟨c, hc, rfl⟩
        rw [h2] at h3
        obtain ⟨p, hp, e⟩ := List.mem_map.1 h3
        rw [← e]
        exact HLN.out p hp (List.all_eq_true.1 h1 p hp)⟩
      have EV := hide (every_one ⟨va, ps.length, vc⟩ cols N ps.length F q1 q2 wr (HOF.isL (bytes := 24) scellS_len (by rw [List.length_map, HCL.out]; omega)) CI HCL.out hp0 hp1 hN HF.out (fun wx B xs hgx hxl hxi => HWC.out wx q1 q2 B xs (grown_trans gw.out hgx) (BN.out wx (grown_trans hg hgx)).1 (BN.out wx (grown_trans hg hgx)).2 hxl hxi))
      simp only at EV
      clear HOF CI hg
      go_wp2_with fail
      refine EV.out.mono ?_
      rintro e w5 ⟨hg5, hq⟩
      have G5 := hide (grown_trans gw.out hg5)
      have Z5 : Hid (w.heap.size ≤ wr.heap.size) := gw.out.size
      obtain ⟨r, hr⟩ : ∃ r, r = evE F cols 0 N := ⟨_, rfl⟩
      rw [← hr] at hq EQ
      clear hr hg5 EV
      cases r with
      | error c =>
        obtain rfl := hq
        go_wp2
        go_ret2
        exact ev_err EQ.out G5.out
      | ok zs =>
        obtain ⟨⟨sa, sn, sc⟩, rfl, ho⟩ := hq
        have HO5 : Hid (OwnsE w5 w.heap.size (Sl.v ⟨sa, sn, sc⟩) zs) := ⟨ownsRow_base ho.1 Z5.out, ho.2⟩
        clear ho
        go_wp2
        go_ret2
        exact ev_ok EQ.out G5.out ⟨⟨sa, sn, sc⟩, rfl, HO5.out⟩

set_option maxRecDepth 100000 in
set_option maxHeartbeats 8000000 in
theorem made_two (n : Nod) (hop : n.op ∈ ([⟨#[65, 100, 100]⟩, ⟨#[68, 105, 118]⟩, ⟨#[65, 110, 100]⟩, ⟨#[79, 114]⟩, ⟨#[77, 117, 108]⟩] : List ByteArray)) (u : Sl) (ps : List (Ten × Tq)) (nam0 : ByteArray) (vty : Int) (dv : Sl) (l : List Int) (F : List Int → Int × Int) (N : Nat) (w : World) (hv : TensIn w u.v ps) (hp0 : 0 < ps.length) (hp1 : ps.length ≤ 1000) (hd : IsInts w dv.v l) (hN : N ≤ 65536) (hL : ∀ p ∈ ps, asOk l p = true → (colP l p).length = N) (hF : ∀ xs, -9223372036854775808 ≤ (F xs).1 ∧ (F xs).1 ≤ 9223372036854775807)
    (WC : ∀ (wx : World) (p1 p2 B : Nat) (xs : List Int), w.grownBy wx none → BoxN wx p1 n → BoxT wx p2 u → xs.length = ps.length → IsInts wx (.slice (some ⟨B, 0, none⟩) ps.length ps.length) xs → Calls Tryz.prog 21 #[.slice (some ⟨B, 0, none⟩) ps.length ps.length, .pointer (some ⟨p1, 0, none⟩), .pointer (some ⟨p2, 0, none⟩)] wx fun e w' => e = .returned (.tuple #[.int .i64 (F xs).1, .int .i64 (F xs).2]) ∧ ∃ q, w' = wx.drewN q) :
    Calls Tryz.prog 10 #[nval n, .slice u.a u.n u.c, .agg #[.string nam0, .int .i64 vty, .slice dv.a dv.n dv.c]] w (EvQ w (madeR F ps l N)) := by
  obtain ⟨i0, hi, hz0, hz1, hz2⟩ := info_parts infoColE
  obtain ⟨xa, xc, e1, p1, p2, p3⟩ := hv.vals.form
  rw [List.length_map] at e1 p1 p3
  obtain ⟨ua, un, uc⟩ := u
  simp only [Sl.v, Value.slice.injEq] at e1
  obtain ⟨rfl, rfl, rfl⟩ := e1
  have HV := hide hv
  have HD := hide hd
  have HLN := hide hL
  have HF := hide hF
  have HWC := hide WC
  clear hv hd hL hF WC
  obtain ⟨w0, hw0⟩ : ∃ w0, w0 = (w.alloc (.cells #[.string n.op, .string n.name, .slice n.iv.a n.iv.n n.iv.c, .string n.out, .slice n.av.a n.av.n n.av.c] 35)).alloc (.cells #[.string nam0, .int .i64 vty, .slice dv.a dv.n dv.c] 43) := ⟨_, rfl⟩
  have g0 : Hid (w.grownBy w0 none) := by show w.grownBy w0 none; rw [hw0]; exact grown_trans (grown_new _ _) (grown_new _ _)
  have hbx := two_boxes w (.cells #[.string n.op, .string n.name, .slice n.iv.a n.iv.n n.iv.c, .string n.out, .slice n.av.a n.av.n n.av.c] 35) (.cells #[.string nam0, .int .i64 vty, .slice dv.a dv.n dv.c] 43)
  rw [← hw0] at hbx
  have BX : Hid (∀ wx, w0.grownBy wx none → wx.heap[w.heap.size + 1]? = some (.cells #[.string nam0, .int .i64 vty, .slice dv.a dv.n dv.c] 43 (0, 0))) := fun wx hg => box_kept hbx.2 hg
  have WO := hide (workof2_any n hop ⟨ua, ps.length, uc⟩ (.string nam0) (.int .i64 vty) (.slice dv.a dv.n dv.c) w0)
  clear hbx
  obtain ⟨dva, dvn, dvc⟩ := dv
  obtain ⟨op, nam, ⟨ia, il, ic⟩, out, ⟨ao, al, cap⟩⟩ := n
  unfold nval at WO ⊢
  simp only at WO BX hw0 ⊢
  go_enter Tryz.func10, Tryz.ntmps10
  go_wp2_with fail
  rw [← hw0]
  clear hw0
  refine WO.out.mono ?_
  rintro e w1 ⟨rfl, hg1, hb1, hb2⟩
  have G1 := hide hg1
  have BN : Hid (∀ wx, w1.grownBy wx none → BoxN wx w0.heap.size ⟨op, nam, ⟨ia, il, ic⟩, out, ⟨ao, al, cap⟩⟩ ∧ BoxT wx (w0.heap.size + 1) ⟨ua, ps.length, uc⟩) := fun wx hg => ⟨box_kept hb1 hg, box_kept hb2 hg⟩
  clear hg1 hb1 hb2
  have hbo : ∀ wx, (binOp .eql 48 (.func (.func 21) #[] #[.pointer (some ⟨w0.heap.size, 0, none⟩), .pointer (some ⟨w0.heap.size + 1, 0, none⟩)]) .nilFunc).run Tryz.prog wx = .ok (.bool false) wx := fun wx => by rfl
  obtain ⟨q1, hq1⟩ : ∃ q, q = w0.heap.size := ⟨_, rfl⟩
  obtain ⟨q2, hq2⟩ : ∃ q, q = w0.heap.size + 1 := ⟨_, rfl⟩
  rw [← hq2, ← hq1] at BN hbo ⊢
  clear hq1 hq2
  go_wp2_with fail
  go_loopw [9, 22] (fun v i wr => w1.grownBy wr none ∧ ∃ (k : Nat) (va : Option Addr) (vc : Nat) (cols : List (Sl × List Int)), k ≤ ps.length ∧ i = .int .i64 k ∧ v = .slice va k vc ∧ cols.length = k ∧ cols.map (·.2) = (ps.take k).map (colP l) ∧ (ps.take k).all (asOk l) = true ∧ OwnsL 23 1 scellS wr w1.heap.size (.slice va k vc) (cols.map (·.1)) ∧ ∀ c ∈ cols, OwnsE wr w1.heap.size c.1.v c.2) (fun _ i _ => ps.length - (intOf i).toNat)
  case atStart => exact ⟨grown_refl _, 0, none, 0, [], Nat.zero_le _, rfl, rfl, rfl, rfl, rfl, OwnsL.nil .., fun c hc => by simp at hc⟩
  case round =>
    obtain ⟨hg, k, va, vc, cols, hk, rfl, rfl, hcl, hcm, hall, hown, hin⟩ := hrel
    have HG := hide hg
    have HO := hide hown
    have HAL := hide hall
    have HCL := hide hcl
    have HCM := hide hcm
    have HIN := hide hin
    clear hown hall hcl hcm hin
    have gw := hide (grown_trans g0.out (grown_trans G1.out hg))
    by_cases hlt : k < ps.length
    · obtain ⟨b, off, rfl⟩ := HV.out.vals.addr (k := k) (by rw [List.length_map]; exact hlt)
      obtain ⟨a0, a1, a2⟩ := (HV.out.more gw.out).at k hlt
      have HH := hide (HV.out.has ps[k] (List.getElem_mem hlt))
      have HT : Hid ((ps.take (k + 1)).all (asOk l) = ((ps.take k).all (asOk l) && asOk l ps[k])) := by
        show _ = _
        rw [List.take_add_one, List.all_append, List.getElem?_eq_getElem hlt]
        simp
      have HM : Hid ((ps.take (k + 1)).map (colP l) = (ps.take k).map (colP l) ++ [colP l ps[k]]) := by
        show _ = _
        rw [List.take_add_one, List.map_append, List.getElem?_eq_getElem hlt]
        rfl
      have HBAD : Hid (asOk l ps[k] = false → madeR F ps l N = .error (asE ps[k].2.1 ps[k].2.2 l)) := fun h => by
        obtain ⟨h1, h2⟩ := firstA_at hlt HAL.out h
        unfold madeR
        rw [if_neg (by simp [h2]), h1]
      obtain ⟨p, hp⟩ : ∃ p, p = ps[k] := ⟨_, rfl⟩
      rw [← hp] at a0 a1 a2 HH HT HM HBAD
      obtain ⟨⟨ty, ⟨da, dn, dc⟩, ⟨ta, tn, tc⟩⟩, ⟨ds, ts⟩⟩ := p
      simp only at a0 a1 a2 HH HBAD
      obtain ⟨w2, hw2⟩ : ∃ w2, w2 = wr.alloc (.cells #[.int .i64 ty, .slice da dn dc, .slice ta tn tc] 25) := ⟨_, rfl⟩
      have g2 : Hid (wr.grownBy w2 none) := by show wr.grownBy w2 none; rw [hw2]; exact grown_new _ _
      have B2 := BX.out w2 (grown_trans (grown_trans G1.out hg) g2.out)
      have v2 : w2.cell? ⟨w.heap.size + 1, 2, none⟩ = some (.slice dva dvn dvc) := (cell_of_row _ _ 2 _ _ (0, 0) B2).trans rfl
      rw [hw2] at v2
      have AS := hide (as_any ⟨ty, ⟨da, dn, dc⟩, ⟨ta, tn, tc⟩⟩ ds ts l ⟨dva, dvn, dvc⟩ w2 ((HH.out.1.more gw.out).more g2.out) ((HH.out.2.more gw.out).more g2.out) ((HD.out.more gw.out).more g2.out))
      unfold tval at AS
      simp only at AS
      clear B2 hp hg
      go_wp2_with fail
      rw [← hw2]
      clear hw2 a0 a1 a2 v2
      refine AS.out.mono ?_
      rintro e w3 ⟨⟨sa, sn, sc⟩, rfl, ho3, hg3⟩
      have G3 := hide (grown_trans (grown_trans HG.out g2.out) hg3)
      have I3 := hide (OwnsE.ints (w := w3) (base := w2.heap.size) ho3)
      have hsz : w1.heap.size ≤ w3.heap.size := G3.out.size
      by_cases hok : asE ds ts l = 0
      · have bo : (asE ds ts l != 0) = false := by simp [hok]
        have HOK := hide hok
        have KL : Hid ((cols.map (·.1)).length = k) := by show _ = _; rw [List.length_map]; exact HCL.out
        have OW : Hid (∀ o, (w3.alloc o).ownsRow w1.heap.size 23 1 (.slice va k vc) k ((cols.map (·.1)).flatMap scellS)) := fun o => owns_row_atE ((HO.out.more (grown_trans g2.out hg3)).more (grown_new _ _)) KL.out
        have GI := hide (grown_trans g2.out hg3)
        have HS : Hid (∀ c ∈ cols ++ [((⟨sa, sn, sc⟩ : Sl), asL ds ts l)], OwnsE (w3.alloc (.cells #[.slice sa sn sc] 23)) w1.heap.size c.1.v c.2) := fun c hc => by
          rcases List.mem_append.1 hc with hc | hc
          · exact (HIN.out c hc).more (grown_trans GI.out (grown_new _ _)) (by cases c.1.v.ownBlock <;> simp)
          · obtain rfl := List.mem_singleton.1 hc
            exact OwnsE.more (w := w3) ⟨ownsRow_base ho3.1 (by have := HG.out.size; have := g2.out.size; omega), ho3.2⟩ (grown_new _ _) (by cases (Sl.v ⟨sa, sn, sc⟩).ownBlock <;> simp)
        clear hok ho3 hg3 AS
        go_wp2_with (at_builtin; refine wpList_append_lies _ rfl (.tmp 36) (.tmp 38) 50 rfl w1.heap.size 23 i0 (.slice none 0 0) 1 24 Tryz.underlying50 hi hz0 hz1 hz2 rfl (by decide) (.slice va k vc) k ((cols.map (·.1)).flatMap scellS) rfl (by exact OW.out _) ⟨w3.heap.size, 0, none⟩ 1 1 (scellS ⟨sa, sn, sc⟩) rfl rfl (by exact World.news_of_block (by have h := heap_alloc_new w3 (.cells #[.slice sa sn sc] 23); simpa using h)) (scellS_one _) (by omega) (by simp only [maxLen]; omega) (by omega) (by simp; omega) (w3.heap.size + 1) (by simp) ?_; intro gg cap8 w8 hown8 hgrow hat hlt8)
        have ST : Hid (w1.grownBy w8 none ∧ OwnsL 23 1 scellS w8 w1.heap.size (.slice (some ⟨gg, 0, none⟩) (k + 1) cap8) ((cols ++ [((⟨sa, sn, sc⟩ : Sl), asL ds ts l)]).map (fun c => c.1)) ∧ (ps.take (k + 1)).all (asOk l) = true ∧ (cols ++ [((⟨sa, sn, sc⟩ : Sl), asL ds ts l)]).map (fun c => c.2) = (ps.take (k + 1)).map (colP l) ∧ ∀ c ∈ cols ++ [((⟨sa, sn, sc⟩ : Sl), asL ds ts l)], OwnsE w8 w1.heap.size c.1.v c.2) := ⟨grown_trans_row (grown_trans G3.out (grown_new _ _)) hgrow (fun r e => (World.ownsRow.lt HO.out r e).1), by rw [List.map_append]; exact owns_at_rowE KL.out hown8, by rw [HT.out, HAL.out]; simp [asOk, HOK.out], by rw [HM.out, List.map_append, HCM.out]; rfl, fun c hc => by
          have h9 := HS.out c hc
          exact ⟨h9.1.kept hgrow (apart_te h9.1 (OW.out _) (by decide)), h9.2⟩⟩
        clear hown8 hgrow hat hlt8
        go_wp2_with fail
        go_roundw
        case rel => exact ⟨ST.out.1, k + 1, _, _, _, by omega, by go_num, rfl, by rw [List.length_append, HCL.out]; rfl, ST.out.2.2.2.1, ST.out.2.2.1, ST.out.2.1, ST.out.2.2.2.2⟩
        case measure => simp [intOf]; omega
      · have bo : (asE ds ts l != 0) = true := by simpa using hok
        have E : Hid (madeR F ps l N = .error (asE ds ts l)) := HBAD.out (by simpa [asOk] using hok)
        have GF := hide (grown_trans (grown_trans g0.out G1.out) G3.out)
        clear hok ho3 hg3 AS
        go_wp2
        go_ret2
        exact ev_err E.out GF.out
    · obtain rfl : k = ps.length := by omega
      have HOF := HO.out
      have EQ : Hid (madeR F ps l N = evE F cols 0 N) := by
        show _ = _
        have h1 := HAL.out
        have h2 := HCM.out
        rw [List.take_of_length_le (Nat.le_refl _)] at h1 h2
        unfold madeR
        rw [if_pos h1, evE_evL, h2]
      have CI : ∀ c ∈ cols, IsInts wr c.1.v c.2 ∧ c.2.length = N := fun c hc => ⟨(HIN.out c hc).ints, by
        have h1 := HAL.out
        have h2 := HCM.out
        rw [List.take_of_length_le (Nat.le_refl _)] at h1 h2
        have h3 : c.2 ∈ cols.map (·.2) := List.mem_map.2 ⟨c, hc, rfl⟩
        rw [h2] at h3
        obtain ⟨p, hp, e⟩ := List.mem_map.1 h3
        rw [← e]
        exact HLN.out p hp (List.all_eq_true.1 h1 p hp)⟩
      have EV := hide (every_two ⟨va, ps.length, vc⟩ cols N ps.length F q1 q2 wr (HOF.isL (bytes := 24) scellS_len (by rw [List.length_map, HCL.out]; omega)) CI HCL.out hp0 hp1 hN HF.out (fun wx B xs hgx hxl hxi => HWC.out wx q1 q2 B xs (grown_trans gw.out hgx) (BN.out wx (grown_trans hg hgx)).1 (BN.out wx (grown_trans hg hgx)).2 hxl hxi))
      simp only at EV
      clear HOF CI hg
      go_wp2_with fail
      refine EV.out.mono ?_
      rintro e w5 ⟨hg5, hq⟩
      have G5 := hide (grown_trans gw.out hg5)
      have Z5 : Hid (w.heap.size ≤ wr.heap.size) := gw.out.size
      obtain ⟨r, hr⟩ : ∃ r, r = evE F cols 0 N := ⟨_, rfl⟩
      rw [← hr] at hq EQ
      clear hr hg5 EV
      cases r with
      | error c =>
        obtain rfl := hq
        go_wp2
        go_ret2
        exact ev_err EQ.out G5.out
      | ok zs =>
        obtain ⟨⟨sa, sn, sc⟩, rfl, ho⟩ := hq
        have HO5 : Hid (OwnsE w5 w.heap.size (Sl.v ⟨sa, sn, sc⟩) zs) := ⟨ownsRow_base ho.1 Z5.out, ho.2⟩
        clear ho
        go_wp2
        go_ret2
        exact ev_ok EQ.out G5.out ⟨⟨sa, sn, sc⟩, rfl, HO5.out⟩
end Go.Proofs.YtnifbdcgobnjeaaGreatDoor

/- begin.Do and elem.Do, by the walk. -/
namespace Go.Proofs.YtnifbdcgobnjeaaGreatDoor
open Go.RowKit

/-- What Do answers. -/
def doR (r : R (Int × List Int)) (M : List Int → R (List Int)) : R (Int × List Int × List Int) := match r with
  | .ok (ty, l) => (M l).map fun zs => (ty, l, zs)
  | .error c => .error c

/-- How Do ends. -/
def DoQ (w : World) (r : R (Int × List Int × List Int)) (e : Ending) (w' : World) : Prop := w.grownBy w' none ∧ match r with
  | .ok (ty, l, zs) => ∃ t : Ten, t.ty = ty ∧ e = .returned (.tuple #[tval t, .int .i64 0]) ∧ Owns w' w.heap.size t.dv.v l ∧ OwnsE w' w.heap.size t.tv.v zs
  | .error c => e = .returned (.tuple #[.agg #[.int .i64 0, .slice none 0 0, .slice none 0 0], .int .i64 c])

theorem do_err {w w' : World} {r : R (Int × List Int × List Int)} {c : Int} (h : r = .error c) (hg : w.grownBy w' none) : DoQ w r (.returned (.tuple #[.agg #[.int .i64 0, .slice none 0 0, .slice none 0 0], .int .i64 c])) w' := by rw [h]; exact ⟨hg, rfl⟩

theorem do_ok {w w' : World} {r : R (Int × List Int × List Int)} {ty : Int} {l zs : List Int} {d t : Sl} (h : r = .ok (ty, l, zs)) (hg : w.grownBy w' none) (hd : Owns w' w.heap.size d.v l) (ht : OwnsE w' w.heap.size t.v zs) : DoQ w r (.returned (.tuple #[.agg #[.int .i64 ty, .slice d.a d.n d.c, .slice t.a t.n t.c], .int .i64 0])) w' := by rw [h]; exact ⟨hg, ⟨ty, d, t⟩, rfl, rfl, hd, ht⟩

theorem ret_ten2 {fn : Func} {p u : Tmp} (h : fn.results = #[.cell p 25, .tmp u]) (tmps : Array Value) (w : World) (B : Nat) (hp : tmps.getD p undef = .pointer (some ⟨B, 0, none⟩)) {a0 a1 a2 : Value}
    (hb : w.heap[B]? = some (.cells #[a0, a1, a2] 25 (0, 0))) : (results fn tmps).run Tryz.prog w = .ok (.tuple #[.agg #[a0, a1, a2], tmps.getD u undef]) w := by
  have hl := run_loadVar_row (P := Tryz.prog) w B _ 25 #[a0, a1, a2] (0, 0) _ hb Tryz.underlying25 rfl (by rw [tenInfo]; rfl)
  rw [results_cell_tmp h, hp]
  simp [asAddr, hl, Result.andThen]

theorem row_lt {w : World} {base te sz n : Nat} {v : Value} {cs : List Value} (h : w.ownsRow base te sz v n cs) {B : Nat} (hB : B < base) : v.ownBlock = none ∨ v.ownBlock ≠ some B := by
  rcases h.2 with ⟨e, -⟩ | ⟨g, cap, cur, e, hg, -⟩
  · exact .inl (by rw [e]; rfl)
  · exact .inr (by rw [e]; simp [Value.ownBlock]; omega)

set_option maxRecDepth 100000 in
set_option maxHeartbeats 8000000 in
theorem bdo_any (n : Nod) (u : Sl) (R0 : R (Int × List Int)) (M : List Int → R (List Int)) (w : World) (h1 : ∀ c, R0 = .error c → c ≠ 0) (h2 : ∀ l c, M l = .error c → c ≠ 0)
    (NC : ∀ wx, w.grownBy wx none → Calls Tryz.prog 12 #[nval n, .slice u.a u.n u.c] wx (AttQ n.out wx R0))
    (MC : ∀ (wx : World) (ty : Int) (dv : Sl) (l : List Int), w.grownBy wx none → R0 = .ok (ty, l) → IsInts wx dv.v l → Calls Tryz.prog 10 #[nval n, .slice u.a u.n u.c, .agg #[.string n.out, .int .i64 ty, .slice dv.a dv.n dv.c]] wx (EvQ wx (M l))) :
    Calls Tryz.prog 9 #[nval n, .slice u.a u.n u.c, .func (.func 10) #[] #[]] w (DoQ w (doR R0 M)) := by
  have H1 := hide h1
  have H2 := hide h2
  have HMC := hide MC
  clear h1 h2 MC
  obtain ⟨w0, hw0⟩ : ∃ w0, w0 = (w.alloc (.cells #[.string n.op, .string n.name, .slice n.iv.a n.iv.n n.iv.c, .string n.out, .slice n.av.a n.av.n n.av.c] 35)).alloc (.cells #[.int .i64 0, .slice none 0 0, .slice none 0 0] 25) := ⟨_, rfl⟩
  have g0 : Hid (w.grownBy w0 none) := by show w.grownBy w0 none; rw [hw0]; exact grown_trans (grown_new _ _) (grown_new _ _)
  have hbx := two_boxes w (.cells #[.string n.op, .string n.name, .slice n.iv.a n.iv.n n.iv.c, .string n.out, .slice n.av.a n.av.n n.av.c] 35) (.cells #[.int .i64 0, .slice none 0 0, .slice none 0 0] 25)
  rw [← hw0] at hbx
  have BN : Hid (∀ wx, w0.grownBy wx none → wx.heap[w.heap.size]? = some (.cells #[.string n.op, .string n.name, .slice n.iv.a n.iv.n n.iv.c, .string n.out, .slice n.av.a n.av.n n.av.c] 35 (0, 0))) := fun wx hg => box_kept hbx.1 hg
  have BX : Hid (∀ wx, w0.grownBy wx none → wx.heap[w.heap.size + 1]? = some (.cells #[.int .i64 0, .slice none 0 0, .slice none 0 0] 25 (0, 0))) := fun wx hg => box_kept hbx.2 hg
  have Z0 : Hid (w.heap.size + 1 < w0.heap.size) := (Array.getElem?_eq_some_iff.1 hbx.2).1
  have N1 := hide (NC w0 g0.out)
  clear hbx NC
  obtain ⟨op, nam, ⟨ia, il, ic⟩, out, ⟨ao, al, cap⟩⟩ := n
  obtain ⟨ua, un, uc⟩ := u
  unfold nval at HMC N1 ⊢
  simp only at HMC N1 BN hw0 ⊢
  go_enter Tryz.func9, Tryz.ntmps9
  go_wp2_with fail
  rw [← hw0]
  clear hw0
  refine N1.out.mono ?_
  rintro e w1 ⟨hg1, hq⟩
  have G1 := hide hg1
  cases R0 with
  | error c =>
    obtain rfl := hq
    have hc := H1.out c rfl
    have bc : (c != 0) = true := by simpa using hc
    obtain ⟨w2, hw2⟩ : ∃ w2, w2 = w1.alloc (.cells #[.string ⟨#[]⟩, .int .i64 0, .slice none 0 0] 43) := ⟨_, rfl⟩
    have g2 : w1.grownBy w2 none := by rw [hw2]; exact grown_new _ _
    have B1 := BX.out w2 (grown_trans hg1 g2)
    obtain ⟨f0, f1, f2⟩ := ten_frozen B1
    have c0 : w2.cell? ⟨w.heap.size + 1, 0, none⟩ = some (.int .i64 0) := (cell_of_row _ _ 0 _ _ (0, 0) B1).trans rfl
    have c1 : w2.cell? ⟨w.heap.size + 1, 1, none⟩ = some (.slice none 0 0) := (cell_of_row _ _ 1 _ _ (0, 0) B1).trans rfl
    have c2 : w2.cell? ⟨w.heap.size + 1, 2, none⟩ = some (.slice none 0 0) := (cell_of_row _ _ 2 _ _ (0, 0) B1).trans rfl
    obtain ⟨hX, gX⟩ := store3t (.int .i64 0) (.slice none 0 0) (.slice none 0 0) B1
    have HX := hide hX
    have GX := hide (grown_drop (grown_trans g0.out (grown_trans hg1 g2)) gX (by omega))
    rw [hw2] at f0 f1 f2 c0 c1 c2 HX GX
    clear hX gX B1 hc hg1 g2 hw2
    go_wp2
    refine bodyPost_ret (ret_ten2 rfl _ _ (w.heap.size + 1) rfl HX.out) rfl ?_
    exact do_err rfl GX.out
  | ok rr =>
    obtain ⟨ty, l⟩ := rr
    obtain ⟨⟨s1, s2, s3⟩, rfl, ho⟩ := hq
    obtain ⟨w2, hw2⟩ : ∃ w2, w2 = w1.alloc (.cells #[.string out, .int .i64 ty, .slice s1 s2 s3] 43) := ⟨_, rfl⟩
    have g2 : w1.grownBy w2 none := by rw [hw2]; exact grown_new _ _
    have hB2 := heap_alloc_new w1 (.cells #[.string out, .int .i64 ty, .slice s1 s2 s3] 43)
    rw [← hw2] at hB2
    have BV : Hid (∀ wx, w2.grownBy wx none → wx.heap[w1.heap.size]? = some (.cells #[.string out, .int .i64 ty, .slice s1 s2 s3] 43 (0, 0))) := fun wx hg => box_kept hB2 hg
    have HO := hide ho
    obtain ⟨n0, n1, n2, n3, n4⟩ := nod_cells (n := ⟨op, nam, ⟨ia, il, ic⟩, out, ⟨ao, al, cap⟩⟩) (BN.out w2 (grown_trans hg1 g2))
    have M1 := hide (HMC.out w2 ty ⟨s1, s2, s3⟩ l (grown_trans g0.out (grown_trans hg1 g2)) rfl (ho.ints.more g2))
    have G2 := hide (grown_trans hg1 g2)
    have G12 := hide g2
    simp only at n0 n1 n2 n3 n4 M1
    rw [hw2] at n0 n1 n2 n3 n4
    clear ho hg1 g2 hB2
    go_wp2_with fail
    rw [← hw2]
    clear hw2 n0 n1 n2 n3 n4
    refine M1.out.mono ?_
    rintro e w3 ⟨hg3, hq⟩
    have B3 := BX.out w3 (grown_trans G2.out hg3)
    have G3 := hide (grown_trans g0.out (grown_trans G2.out hg3))
    obtain ⟨f0, f1, f2⟩ := ten_frozen B3
    have c0 : w3.cell? ⟨w.heap.size + 1, 0, none⟩ = some (.int .i64 0) := (cell_of_row _ _ 0 _ _ (0, 0) B3).trans rfl
    have c1 : w3.cell? ⟨w.heap.size + 1, 1, none⟩ = some (.slice none 0 0) := (cell_of_row _ _ 1 _ _ (0, 0) B3).trans rfl
    have c2 : w3.cell? ⟨w.heap.size + 1, 2, none⟩ = some (.slice none 0 0) := (cell_of_row _ _ 2 _ _ (0, 0) B3).trans rfl
    obtain ⟨mr, hmr⟩ : ∃ mr, mr = M l := ⟨_, rfl⟩
    rw [← hmr] at hq
    have ED : Hid (doR (.ok (ty, l)) M = mr.map fun zs => (ty, l, zs)) := by rw [hmr]; rfl
    cases mr with
    | error c =>
      obtain rfl := hq
      have hc := H2.out l c hmr.symm
      have bc : (c != 0) = true := by simpa using hc
      obtain ⟨hX, gX⟩ := store3t (.int .i64 0) (.slice none 0 0) (.slice none 0 0) B3
      have HX := hide hX
      have GX := hide (grown_drop G3.out gX (by omega))
      clear hX gX B3 hc hg3 hmr
      go_wp2
      refine bodyPost_ret (ret_ten2 rfl _ _ (w.heap.size + 1) rfl HX.out) rfl ?_
      exact do_err ED.out GX.out
    | ok zs =>
      obtain ⟨⟨t1, t2, t3⟩, rfl, ht⟩ := hq
      have bv := BV.out w3 hg3
      have v1 : w3.cell? ⟨w1.heap.size, 1, none⟩ = some (.int .i64 ty) := (cell_of_row _ _ 1 _ _ (0, 0) bv).trans rfl
      have v2 : w3.cell? ⟨w1.heap.size, 2, none⟩ = some (.slice s1 s2 s3) := (cell_of_row _ _ 2 _ _ (0, 0) bv).trans rfl
      obtain ⟨hX, gX⟩ := store3t (.int .i64 ty) (.slice s1 s2 s3) (.slice t1 t2 t3) B3
      have HX := hide hX
      have GX := hide (grown_drop G3.out gX (by omega))
      have z0 := Z0.out
      have z1 := g0.out.size
      have z2 := G2.out.size
      have OD := hide (((HO.out.more (grown_trans G12.out hg3) (by cases (Sl.v ⟨s1, s2, s3⟩).ownBlock <;> simp)).base_le (b' := w0.heap.size) (Nat.le_refl _)).more gX (row_lt HO.out.1 (by omega)))
      have OT : Hid (OwnsE _ w2.heap.size (Sl.v ⟨t1, t2, t3⟩) zs) := ht.more gX (row_lt ht.1 (by omega))
      clear hX gX B3 hg3 hmr bv ht z0 z1 z2
      go_wp2
      refine bodyPost_ret (ret_ten2 rfl _ _ (w.heap.size + 1) rfl HX.out) rfl ?_
      exact do_ok (d := ⟨s1, s2, s3⟩) (t := ⟨t1, t2, t3⟩) ED.out GX.out (OD.out.base_le (by have := g0.out.size; omega)) ⟨ownsRow_base OT.out.1 (by have := g0.out.size; have := G2.out.size; omega), OT.out.2⟩

set_option maxRecDepth 100000 in
set_option maxHeartbeats 8000000 in
theorem edo_any (n : Nod) (u : Sl) (r : R (Int × List Int × List Int)) (w : World) (BC : ∀ wx, w.grownBy wx none → Calls Tryz.prog 9 #[nval n, .slice u.a u.n u.c, .func (.func 10) #[] #[]] wx (DoQ wx r)) :
    Calls Tryz.prog 7 #[nval n, .slice u.a u.n u.c] w (DoQ w r) := by
  obtain ⟨w0, hw0⟩ : ∃ w0, w0 = (w.alloc (.cells #[.string n.op, .string n.name, .slice n.iv.a n.iv.n n.iv.c, .string n.out, .slice n.av.a n.av.n n.av.c] 35)).alloc (.cells #[.int .i64 0, .slice none 0 0, .slice none 0 0] 25) := ⟨_, rfl⟩
  have g0 : Hid (w.grownBy w0 none) := by show w.grownBy w0 none; rw [hw0]; exact grown_trans (grown_new _ _) (grown_new _ _)
  have hbx := two_boxes w (.cells #[.string n.op, .string n.name, .slice n.iv.a n.iv.n n.iv.c, .string n.out, .slice n.av.a n.av.n n.av.c] 35) (.cells #[.int .i64 0, .slice none 0 0, .slice none 0 0] 25)
  rw [← hw0] at hbx
  have BX : Hid (∀ wx, w0.grownBy wx none → wx.heap[w.heap.size + 1]? = some (.cells #[.int .i64 0, .slice none 0 0, .slice none 0 0] 25 (0, 0))) := fun wx hg => box_kept hbx.2 hg
  have Z0 : Hid (w.heap.size + 1 < w0.heap.size) := (Array.getElem?_eq_some_iff.1 hbx.2).1
  have N1 := hide (BC w0 g0.out)
  clear hbx BC
  obtain ⟨op, nam, ⟨ia, il, ic⟩, out, ⟨ao, al, cap⟩⟩ := n
  obtain ⟨ua, un, uc⟩ := u
  unfold nval at N1 ⊢
  simp only at N1 hw0 ⊢
  go_enter Tryz.func7, Tryz.ntmps7
  go_wp2_with fail
  rw [← hw0]
  clear hw0
  refine N1.out.mono ?_
  rintro e w3 ⟨hg3, hq⟩
  have B3 := BX.out w3 hg3
  have G3 := hide (grown_trans g0.out hg3)
  obtain ⟨f0, f1, f2⟩ := ten_frozen B3
  have c0 : w3.cell? ⟨w.heap.size + 1, 0, none⟩ = some (.int .i64 0) := (cell_of_row _ _ 0 _ _ (0, 0) B3).trans rfl
  have c1 : w3.cell? ⟨w.heap.size + 1, 1, none⟩ = some (.slice none 0 0) := (cell_of_row _ _ 1 _ _ (0, 0) B3).trans rfl
  have c2 : w3.cell? ⟨w.heap.size + 1, 2, none⟩ = some (.slice none 0 0) := (cell_of_row _ _ 2 _ _ (0, 0) B3).trans rfl
  cases r with
  | error c =>
    obtain rfl := hq
    obtain ⟨hX, gX⟩ := store3t (.int .i64 0) (.slice none 0 0) (.slice none 0 0) B3
    have HX := hide hX
    have GX := hide (grown_drop G3.out gX (by omega))
    clear hX gX B3 hg3
    go_wp2
    refine bodyPost_ret (ret_ten2 rfl _ _ (w.heap.size + 1) rfl HX.out) rfl ?_
    exact do_err rfl GX.out
  | ok rr =>
    obtain ⟨ty, l, zs⟩ := rr
    obtain ⟨⟨ty', ⟨s1, s2, s3⟩, ⟨t1, t2, t3⟩⟩, e1, rfl, hd, ht⟩ := hq
    simp only at e1
    subst e1
    obtain ⟨hX, gX⟩ := store3t (.int .i64 ty') (.slice s1 s2 s3) (.slice t1 t2 t3) B3
    have HX := hide hX
    have GX := hide (grown_drop G3.out gX (by omega))
    have OD := hide (hd.more gX (row_lt hd.1 Z0.out))
    have OT := hide (ht.more gX (row_lt ht.1 Z0.out))
    clear hX gX B3 hg3 hd ht
    unfold tval
    go_wp2
    refine bodyPost_ret (ret_ten2 rfl _ _ (w.heap.size + 1) rfl HX.out) rfl ?_
    exact do_ok (d := ⟨s1, s2, s3⟩) (t := ⟨t1, t2, t3⟩) rfl GX.out (OD.out.base_le (by have := g0.out.size; omega)) ⟨ownsRow_base OT.out.1 (by have := g0.out.size; omega), OT.out.2⟩
end Go.Proofs.YtnifbdcgobnjeaaGreatDoor

/- infer.Out at nodes with no attributes: the operators of two and Not. -/
namespace Go.Proofs.YtnifbdcgobnjeaaGreatDoor
open Go.RowKit

theorem ended_monoE {α : Type} {w w' : World} {r : R α} {Q Q' : α → Value → World → Prop} {e : Ending} (h : Ended w r Q e w') (hq : ∀ a v, r = .ok a → Q a v w' → Q' a v w') : Ended w r Q' e w' := by
  cases r with
  | error c => exact h
  | ok a =>
    obtain ⟨hg, v, he, hv⟩ := h
    exact ⟨hg, v, he, hq a v rfl hv⟩

theorem bare_in (w : World) (op out : ByteArray) (iv : Sl) (ins : List ByteArray) (hi : IsStrs w iv.v ins) : NodeIn w ⟨op, ⟨#[]⟩, iv, out, nilS⟩ ins [] [] :=
  ⟨hi, OwnsL.isL (te := 86) (base := 0) acells_len (OwnsL.nil ..) (by simp), (fun j a h => by simp at h), by simp, (fun a h => by cases h)⟩

theorem bare_ok (w : World) (op out : ByteArray) (iv : Sl) : NodeOk w ⟨op, ⟨#[]⟩, iv, out, nilS⟩ ⟨op, [], []⟩ :=
  ⟨rfl, OwnsL.isL (te := 86) (base := 0) acells_len (OwnsL.nil ..) (by simp), (fun j a h => by simp at h), (fun a h => by cases h)⟩

/-- What comes of two values. -/
def out2F (op : ByteArray) (t0 t1 : Int) (x y : List Int) : R (Int × List Int) :=
  (typP t0).bind fun _ => (countP x).bind fun _ => (typP t1).bind fun _ => (countP y).bind fun _ => (sameP [t0, t1]).bind fun t => (mustP (twoOK op.toList t)).bind fun _ => (spreadP x y).bind fun d => (countP d).bind fun _ => .ok (t, d)

/-- What comes of one value. -/
def out1F (op : ByteArray) (t0 : Int) (x : List Int) : R (Int × List Int) :=
  (typP t0).bind fun _ => (countP x).bind fun _ => (mustP (oneOK op.toList t0)).bind fun _ => .ok (t0, x)

theorem bind_assocE {α β γ : Type} (r : R α) (f : α → R β) (g : β → R γ) : (r.bind f).bind g = r.bind fun a => (f a).bind g := by cases r <;> rfl

theorem value2 (op : ByteArray) (v0 v1 : Val) (x y : List Int) : valueP 0 true [(v0, x), (v1, y)] ((sameP (tysOf [(v0, x), (v1, y)])).bind (fun t => (mustP (twoOK op.toList t)).bind (fun _ => .ok t))) (spreadP x y) [] = out2F op v0.ty v1.ty x y := by
  unfold valueP out2F
  simp only [stopP, mustP, if_true, vinP, tysOf, List.map_cons, List.map_nil, thenP, bind_assocE]
  rfl

theorem countP_bind {α : Type} (x : List Int) (f : R α) : ((countP x).bind fun _ => (countP x).bind fun _ => f) = (countP x).bind fun _ => f := by cases countP x <;> rfl

theorem value1 (op : ByteArray) (v0 : Val) (x : List Int) : valueP 0 true [(v0, x)] ((sameP (tysOf [(v0, x)])).bind (fun t => (mustP (oneOK op.toList t)).bind (fun _ => .ok t))) (.ok x) [] = out1F op v0.ty x := by
  unfold valueP out1F
  simp only [stopP, mustP, if_true, vinP, tysOf, List.map_cons, List.map_nil, thenP, bind_assocE, sameP, List.all_nil]
  cases typP v0.ty with
  | error c => rfl
  | ok a =>
    cases h : countP x with
    | error c => rfl
    | ok b =>
      by_cases hb : oneOK op.toList v0.ty = true
      · simp [hb, Except.bind, h]
      · simp [hb, Except.bind]

theorem isType_of {t : Int} (h : typP t = .ok ()) : isTypeP t = true := by
  unfold typP at h
  by_cases hb : isTypeP t = true
  · exact hb
  · rw [if_neg hb] at h
    cases h

theorem vin2 {v0 v1 : Val} {x y : List Int} (h : vinP [(v0, x), (v1, y)] = .ok ()) : ∀ s ∈ tysOf [(v0, x), (v1, y)], isTypeP s = true := by
  have h0 : typP v0.ty = .ok () ∧ typP v1.ty = .ok () := by
    simp only [vinP] at h
    cases h1 : typP v0.ty with
    | error c => rw [h1] at h; cases h
    | ok a =>
      rw [h1] at h
      simp only [Except.bind] at h
      cases h2 : countP x with
      | error c => rw [h2] at h; cases h
      | ok b =>
        rw [h2] at h
        simp only at h
        cases h3 : typP v1.ty with
        | error c => rw [h3] at h; cases h
        | ok c => exact ⟨rfl, rfl⟩
  intro s hs
  simp only [tysOf, List.map_cons, List.map_nil, List.mem_cons, List.not_mem_nil, or_false] at hs
  rcases hs with rfl | rfl
  · exact isType_of h0.1
  · exact isType_of h0.2

theorem vin1 {v0 : Val} {x : List Int} (h : vinP [(v0, x)] = .ok ()) : ∀ s ∈ tysOf [(v0, x)], isTypeP s = true := by
  have h0 : typP v0.ty = .ok () := by
    simp only [vinP] at h
    cases h1 : typP v0.ty with
    | error c => rw [h1] at h; cases h
    | ok a => rfl
  intro s hs
  simp only [tysOf, List.map_cons, List.map_nil, List.mem_cons, List.not_mem_nil, or_false] at hs
  subst hs
  exact isType_of h0

theorem eout2 (op out : ByteArray) (iv : Sl) (i1 i2 : ByteArray) (hop : op ∈ ([⟨#[65, 100, 100]⟩, ⟨#[68, 105, 118]⟩, ⟨#[65, 110, 100]⟩, ⟨#[79, 114]⟩, ⟨#[77, 117, 108]⟩] : List ByteArray)) (hck : checkF (ruleF op) op [i1, i2] out [] [] = 0) (ho : out.size ≤ 1048576) (u : Sl) (v0 v1 : Val) (x y : List Int) (w : World) (hl : Laid w) (hi : IsStrs w iv.v [i1, i2]) (hv : ValsIn w u.v [(v0, x), (v1, y)]) :
    Calls Tryz.prog 18 #[nval ⟨op, ⟨#[]⟩, iv, out, nilS⟩, .slice u.a u.n u.c] w (AttQ out w (out2F op v0.ty v1.ty x y)) := by
  have hop9 : op ∈ ([⟨#[65, 100, 100]⟩, ⟨#[83, 117, 98]⟩, ⟨#[77, 117, 108]⟩, ⟨#[68, 105, 118]⟩, ⟨#[77, 97, 120]⟩, ⟨#[77, 105, 110]⟩, ⟨#[65, 110, 100]⟩, ⟨#[79, 114]⟩, ⟨#[88, 111, 114]⟩] : List ByteArray) := by
    simp only [List.mem_cons, List.not_mem_nil, or_false] at hop ⊢
    rcases hop with h | h | h | h | h <;> simp [h]
  have hop12 : op ∈ ([⟨#[65, 100, 100]⟩, ⟨#[83, 117, 98]⟩, ⟨#[77, 117, 108]⟩, ⟨#[68, 105, 118]⟩, ⟨#[77, 97, 120]⟩, ⟨#[77, 105, 110]⟩, ⟨#[65, 110, 100]⟩, ⟨#[79, 114]⟩, ⟨#[88, 111, 114]⟩, ⟨#[69, 113, 117, 97, 108]⟩, ⟨#[76, 101, 115, 115]⟩, ⟨#[71, 114, 101, 97, 116, 101, 114]⟩] : List ByteArray) := by
    simp only [List.mem_cons, List.not_mem_nil, or_false] at hop ⊢
    rcases hop with h | h | h | h | h <;> simp [h]
  refine out_any ⟨op, ⟨#[]⟩, iv, out, nilS⟩ u _ w fun wx hx => ?_
  have key := valueof_any ⟨op, ⟨#[]⟩, iv, out, nilS⟩ ⟨op, [], []⟩ [i1, i2] u [(v0, x), (v1, y)] wx (hl.more hx) (bare_in wx op out iv _ (hi.more hx)) (hv.more hx) (by show out.size ≤ _; omega) _ _ (fun hc hll hin wy hy => ((type_two ⟨op, ⟨#[]⟩, iv, out, nilS⟩ ⟨op, [], []⟩ u [(v0, x), (v1, y)] wy hop9 (bare_ok wy op out iv) (hv.more (grown_trans hx hy)) rfl (by simp) (vin2 hin)).mono fun e w' he => ended_monoE he fun t v e1 e2 => ⟨e2, by
    simp only [tysOf, List.map_cons, List.map_nil, sameP] at e1
    have ht := vin2 hin v0.ty (by simp [tysOf])
    by_cases hb : ([v1.ty].all fun s => s == v0.ty) = true
    · rw [if_pos hb] at e1
      simp only [Except.bind, mustP] at e1
      split at e1
      · cases e1
      · rename_i a h1
        have : v0.ty = t := by simpa using e1
        rw [← this]; exact ht
    · rw [if_neg hb] at e1
      cases e1⟩)) (fun hc hll hin wy hy => dims_two ⟨op, ⟨#[]⟩, iv, out, nilS⟩ ⟨op, [], []⟩ u v0 v1 x y wy hop12 (bare_ok wy op out iv) (hv.more (grown_trans hx hy)))
  rw [show checkF (ruleF (Nod.op ⟨op, ⟨#[]⟩, iv, out, nilS⟩)) (Nod.op ⟨op, ⟨#[]⟩, iv, out, nilS⟩) [i1, i2] (Nod.out ⟨op, ⟨#[]⟩, iv, out, nilS⟩) (At.xs ⟨op, [], []⟩) (At.cs ⟨op, [], []⟩) = 0 from hck] at key
  have e := value2 op v0 v1 x y
  refine key.mono fun e' w' he => ?_
  rw [← e]
  exact ended_monoE he fun r v _ e2 => e2

theorem eout1 (op out : ByteArray) (iv : Sl) (i1 : ByteArray) (hop : op ∈ ([⟨#[78, 111, 116]⟩] : List ByteArray)) (hck : checkF (ruleF op) op [i1] out [] [] = 0) (ho : out.size ≤ 1048576) (u : Sl) (v0 : Val) (x : List Int) (w : World) (hl : Laid w) (hi : IsStrs w iv.v [i1]) (hv : ValsIn w u.v [(v0, x)]) :
    Calls Tryz.prog 18 #[nval ⟨op, ⟨#[]⟩, iv, out, nilS⟩, .slice u.a u.n u.c] w (AttQ out w (out1F op v0.ty x)) := by
  have hop9 : op ∈ ([⟨#[73, 100, 101, 110, 116, 105, 116, 121]⟩, ⟨#[78, 101, 103]⟩, ⟨#[65, 98, 115]⟩, ⟨#[78, 111, 116]⟩, ⟨#[82, 101, 108, 117]⟩, ⟨#[83, 113, 114, 116]⟩, ⟨#[70, 108, 111, 111, 114]⟩, ⟨#[69, 120, 112]⟩, ⟨#[83, 105, 103, 109, 111, 105, 100]⟩, ⟨#[84, 97, 110, 104]⟩] : List ByteArray) := by
    simp only [List.mem_cons, List.not_mem_nil, or_false] at hop ⊢
    simp [hop]
  have hop12 : op ∈ ([⟨#[73, 100, 101, 110, 116, 105, 116, 121]⟩, ⟨#[78, 101, 103]⟩, ⟨#[65, 98, 115]⟩, ⟨#[78, 111, 116]⟩, ⟨#[82, 101, 108, 117]⟩, ⟨#[83, 113, 114, 116]⟩, ⟨#[70, 108, 111, 111, 114]⟩, ⟨#[69, 120, 112]⟩, ⟨#[83, 105, 103, 109, 111, 105, 100]⟩, ⟨#[84, 97, 110, 104]⟩, ⟨#[67, 108, 105, 112]⟩, ⟨#[67, 97, 115, 116]⟩] : List ByteArray) := by
    simp only [List.mem_cons, List.not_mem_nil, or_false] at hop ⊢
    simp [hop]
  refine out_any ⟨op, ⟨#[]⟩, iv, out, nilS⟩ u _ w fun wx hx => ?_
  have key := valueof_any ⟨op, ⟨#[]⟩, iv, out, nilS⟩ ⟨op, [], []⟩ [i1] u [(v0, x)] wx (hl.more hx) (bare_in wx op out iv _ (hi.more hx)) (hv.more hx) (by show out.size ≤ _; omega) _ _ (fun hc hll hin wy hy => ((type_one ⟨op, ⟨#[]⟩, iv, out, nilS⟩ ⟨op, [], []⟩ u [(v0, x)] wy hop9 (bare_ok wy op out iv) (hv.more (grown_trans hx hy)) rfl (by simp) (vin1 hin)).mono fun e w' he => ended_monoE he fun t v e1 e2 => ⟨e2, by
    simp only [tysOf, List.map_cons, List.map_nil, sameP, List.all_nil, if_true, Except.bind, mustP] at e1
    have ht := vin1 hin v0.ty (by simp [tysOf])
    split at e1
    · cases e1
    · have : v0.ty = t := by simpa using e1
      rw [← this]; exact ht⟩)) (fun hc hll hin wy hy => dims_x ⟨op, ⟨#[]⟩, iv, out, nilS⟩ ⟨op, [], []⟩ u v0 x wy hop12 (bare_ok wy op out iv) (hv.more (grown_trans hx hy)))
  rw [show checkF (ruleF (Nod.op ⟨op, ⟨#[]⟩, iv, out, nilS⟩)) (Nod.op ⟨op, ⟨#[]⟩, iv, out, nilS⟩) [i1] (Nod.out ⟨op, ⟨#[]⟩, iv, out, nilS⟩) (At.xs ⟨op, [], []⟩) (At.cs ⟨op, [], []⟩) = 0 from hck] at key
  have e := value1 op v0 x
  refine key.mono fun e' w' he => ?_
  rw [← e]
  exact ended_monoE he fun r v _ e2 => e2
end Go.Proofs.YtnifbdcgobnjeaaGreatDoor

/- elem.Do at a node of two, and of one: what it answers. -/
namespace Go.Proofs.YtnifbdcgobnjeaaGreatDoor
open Go.RowKit

theorem asL_len {ds ts l : List Int} (h : asE ds ts l = 0) : (asL ds ts l).length = (prod l).toNat ∧ (prod l).toNat ≤ 65536 := by
  have h0 := h
  unfold asE at h
  by_cases h1 : cntE ds ≠ 0
  · rw [if_pos h1] at h; exact absurd h h1
  rw [if_neg h1] at h
  by_cases h2 : bcE ds l ≠ 0
  · rw [if_pos h2] at h; exact absurd h h2
  rw [if_neg h2] at h
  by_cases h3 : bcR ds l = l
  · rw [if_pos h3] at h
    unfold asL
    rw [if_pos h0]
    unfold Vw.rdE at h
    by_cases h4 : Vw.rdOk 0 l (Vw.spr ds (strd ds) l) ts = true
    · have hm : Vw.mayB 0 l (Vw.spr ds (strd ds) l) = true := by
        unfold Vw.rdOk at h4
        exact (Bool.and_eq_true_iff.1 h4).1
      have hm := Vw.mayB_iff.1 hm
      unfold Vw.rdL
      rw [if_pos h4]
      unfold Vw.shows
      rw [List.length_map, Vw.plc_length _ _ _ hm.len hm.fine.pos]
      exact ⟨rfl, by have := hm.fine.le; omega⟩
    · rw [if_neg h4] at h; omega
  · rw [if_neg h3] at h; omega

/-- An error that is one. -/
def Nz {α : Type} (r : R α) : Prop := ∀ c, r = .error c → c ≠ 0

theorem Nz.bind {α β : Type} {r : R α} {f : α → R β} (h : Nz r) (k : ∀ a, r = .ok a → Nz (f a)) : Nz (r.bind f) := by
  cases r with
  | error c => intro d hd; exact h d (by cases hd; rfl)
  | ok a => exact k a rfl

theorem bind_ok {α β : Type} {r : R α} {f : α → R β} {b : β} (h : r.bind f = .ok b) : ∃ a, r = .ok a ∧ f a = .ok b := by
  cases r with
  | error c => cases h
  | ok a => exact ⟨a, rfl, h⟩

theorem must_ok {b : Bool} {a : Unit} (h : mustP b = .ok a) : b = true := by
  unfold mustP at h
  split at h
  · assumption
  · cases h

theorem count_ok {x : List Int} {n : Int} (h : countP x = .ok n) : cntE x = 0 := by
  unfold countP at h
  split at h
  · assumption
  · cases h

theorem same_ok {t0 t1 t : Int} (h : sameP [t0, t1] = .ok t) : t1 = t0 ∧ t = t0 := by
  simp only [sameP, List.all_cons, List.all_nil, Bool.and_true, beq_iff_eq] at h
  split at h
  · rename_i h1; cases h; exact ⟨h1, rfl⟩
  · cases h

theorem out2_inv {op : ByteArray} {t0 t1 t : Int} {x y d : List Int} (h : out2F op t0 t1 x y = .ok (t, d)) : t = t0 ∧ t1 = t0 ∧ twoOK op.toList t0 = true ∧ cntE x = 0 ∧ cntE y = 0 ∧ spreadP x y = .ok d ∧ cntE d = 0 := by
  unfold out2F at h
  obtain ⟨_, -, h⟩ := bind_ok h
  obtain ⟨_, hx, h⟩ := bind_ok h
  obtain ⟨_, -, h⟩ := bind_ok h
  obtain ⟨_, hy, h⟩ := bind_ok h
  obtain ⟨t', ht, h⟩ := bind_ok h
  obtain ⟨_, hm, h⟩ := bind_ok h
  obtain ⟨d', hd, h⟩ := bind_ok h
  obtain ⟨_, hc, h⟩ := bind_ok h
  cases h
  obtain ⟨e1, e2⟩ := same_ok ht
  subst e2
  exact ⟨rfl, e1, must_ok hm, count_ok hx, count_ok hy, hd, count_ok hc⟩

theorem out1_inv {op : ByteArray} {t0 t : Int} {x d : List Int} (h : out1F op t0 x = .ok (t, d)) : t = t0 ∧ oneOK op.toList t0 = true ∧ cntE x = 0 ∧ d = x := by
  unfold out1F at h
  obtain ⟨_, -, h⟩ := bind_ok h
  obtain ⟨_, hx, h⟩ := bind_ok h
  obtain ⟨_, hm, h⟩ := bind_ok h
  cases h
  exact ⟨rfl, must_ok hm, count_ok hx, rfl⟩

theorem node_inv {ps : List (Ten × Tq)} {r : R (Int × List Int)} {a : Int × List Int} (h : nodeP ps r = .ok a) : ps.all okT = true ∧ r = .ok a := by
  unfold nodeP at h
  split at h
  · rename_i h1; exact ⟨h1, h⟩
  · cases h

theorem nz_ok {α : Type} (a : α) : Nz (Except.ok a : R α) := fun c h => by cases h
theorem nz_typ (t : Int) : Nz (typP t) := by
  intro c h
  unfold typP at h
  split at h
  · cases h
  · cases h; omega
theorem nz_must (b : Bool) : Nz (mustP b) := by
  intro c h
  unfold mustP at h
  split at h
  · cases h
  · cases h; omega
theorem nz_count (x : List Int) : Nz (countP x) := by
  intro c h
  unfold countP at h
  split at h
  · cases h
  · rename_i h1; cases h; exact h1
theorem nz_spread (x y : List Int) : Nz (spreadP x y) := by
  intro c h
  unfold spreadP at h
  split at h
  · cases h
  · rename_i h1; cases h; exact h1
theorem nz_same (t0 t1 : Int) : Nz (sameP [t0, t1]) := by
  intro c h
  simp only [sameP] at h
  split at h
  · cases h
  · cases h; omega

theorem nz_out2 (op : ByteArray) (t0 t1 : Int) (x y : List Int) : Nz (out2F op t0 t1 x y) :=
  (nz_typ _).bind fun _ _ => (nz_count _).bind fun _ _ => (nz_typ _).bind fun _ _ => (nz_count _).bind fun _ _ => (nz_same _ _).bind fun _ _ => (nz_must _).bind fun _ _ => (nz_spread _ _).bind fun _ _ => (nz_count _).bind fun _ _ => nz_ok _

theorem nz_out1 (op : ByteArray) (t0 : Int) (x : List Int) : Nz (out1F op t0 x) :=
  (nz_typ _).bind fun _ _ => (nz_count _).bind fun _ _ => (nz_must _).bind fun _ _ => nz_ok _

theorem nz_node {ps : List (Ten × Tq)} {r : R (Int × List Int)} (h : Nz r) : Nz (nodeP ps r) := by
  unfold nodeP
  split
  · exact h
  · intro c hc; cases hc; omega

theorem nz_ev (F : List Int → Int × Int) (cs : List (List Int)) : ∀ (m k : Nat), Nz (evL F cs k m)
  | 0, _ => nz_ok _
  | m + 1, k => by
    intro c h
    simp only [evL] at h
    split at h
    · cases he : evL F cs (k + 1) m with
      | error d => rw [he] at h; cases h; exact nz_ev F cs m (k + 1) _ he
      | ok a => rw [he] at h; cases h
    · rename_i h1; cases h; exact h1

theorem firstA_nz {l : List Int} : ∀ {ps : List (Ten × Tq)}, ps.all (asOk l) = false → firstA l ps ≠ 0
  | [], h => by simp at h
  | p :: ps, h => by
    unfold firstA
    by_cases hp : asOk l p = true
    · rw [if_pos hp]
      exact firstA_nz (by simpa [hp] using h)
    · rw [if_neg hp]
      simpa [asOk] using hp

theorem nz_made (F : List Int → Int × Int) (ps : List (Ten × Tq)) (l : List Int) (N : Nat) : Nz (madeR F ps l N) := by
  unfold madeR
  split
  · exact nz_ev _ _ _ _
  · rename_i h
    intro c hc
    cases hc
    exact firstA_nz (by simpa using h)

def F2 (k : Nat) (t : Int) (xs : List Int) : Int × Int := Nu.bin k t (xs.getD 0 0) (xs.getD 1 0)
def F1 (k : Nat) (t : Int) (xs : List Int) : Int × Int := Nu.un k t (xs.getD 0 0)

def tq (t : Int) (x xs : List Int) : Ten × Tq := (⟨t, nilS, nilS⟩, (x, xs))

/-- What Do answers of two tensors. -/
def el2 (op : ByteArray) (k : Nat) (t0 t1 : Int) (x y xs ys : List Int) : R (Int × List Int × List Int) :=
  doR (nodeP [tq t0 x xs, tq t1 y ys] (out2F op t0 t1 x y)) fun l => madeR (F2 k t0) [tq t0 x xs, tq t1 y ys] l (prod l).toNat

/-- What Do answers of one tensor. -/
def el1 (op : ByteArray) (k : Nat) (t0 : Int) (x xs : List Int) : R (Int × List Int × List Int) :=
  doR (nodeP [tq t0 x xs] (out1F op t0 x)) fun l => madeR (F1 k t0) [tq t0 x xs] l (prod l).toNat

/-- What a closure of two does. -/
def Work2 (op : ByteArray) (k : Nat) : Prop := ∀ (n : Nod) (_ : n.op = op) (p1 p2 B : Nat) (ub uo un uc : Nat) (ty x y : Int) (w : World) (_ : BoxN w p1 n) (_ : BoxT w p2 ⟨some ⟨ub, uo, none⟩, un, uc⟩) (_ : 0 < un) (_ : w.cell? ⟨ub, uo, none⟩ = some (.int .i64 ty)) (_ : w.cell? ⟨B, 0, none⟩ = some (.int .i64 x)) (_ : w.cell? ⟨B, 1, none⟩ = some (.int .i64 y)),
    Calls Tryz.prog 21 #[.slice (some ⟨B, 0, none⟩) 2 2, .pointer (some ⟨p1, 0, none⟩), .pointer (some ⟨p2, 0, none⟩)] w fun e w' => e = .returned (.tuple #[.int .i64 (Nu.bin k ty x y).1, .int .i64 (Nu.bin k ty x y).2]) ∧ ∃ q, w' = w.drewN q

theorem two_vals {vs : List (Val × List Int)} {t0 t1 : Int} {x y : List Int} (h1 : vs.map (·.1.ty) = [t0, t1]) (h2 : vs.map (·.2) = [x, y]) : ∃ v0 v1 : Val, vs = [(v0, x), (v1, y)] ∧ v0.ty = t0 ∧ v1.ty = t1 := by
  match vs, h1, h2 with
  | [(v0, a), (v1, b)], h1, h2 =>
    simp only [List.map_cons, List.map_nil, List.cons.injEq, and_true] at h1 h2
    obtain ⟨rfl, rfl⟩ := h1
    obtain ⟨rfl, rfl⟩ := h2
    exact ⟨v0, v1, rfl, rfl, rfl⟩

theorem one_val {vs : List (Val × List Int)} {t0 : Int} {x : List Int} (h1 : vs.map (·.1.ty) = [t0]) (h2 : vs.map (·.2) = [x]) : ∃ v0 : Val, vs = [(v0, x)] ∧ v0.ty = t0 := by
  match vs, h1, h2 with
  | [(v0, a)], h1, h2 =>
    simp only [List.map_cons, List.map_nil, List.cons.injEq, and_true] at h1 h2
    subst h1 h2
    exact ⟨v0, rfl, rfl⟩

theorem elem2 (op out : ByteArray) (iv : Sl) (i1 i2 : ByteArray) (k : Nat) (hop : op ∈ ([⟨#[65, 100, 100]⟩, ⟨#[68, 105, 118]⟩, ⟨#[65, 110, 100]⟩, ⟨#[79, 114]⟩, ⟨#[77, 117, 108]⟩] : List ByteArray)) (WK : Work2 op k) (hck : checkF (ruleF op) op [i1, i2] out [] [] = 0) (ho : out.size ≤ 1048576) (u : Sl) (T0 T1 : Ten) (x y xs ys : List Int) (w : World) (hl : Laid w) (hi : IsStrs w iv.v [i1, i2]) (hv : TensIn w u.v [(T0, (x, xs)), (T1, (y, ys))]) (hF : ∀ a b, -9223372036854775808 ≤ (Nu.bin k T0.ty a b).1 ∧ (Nu.bin k T0.ty a b).1 ≤ 9223372036854775807) :
    Calls Tryz.prog 7 #[nval ⟨op, ⟨#[]⟩, iv, out, nilS⟩, .slice u.a u.n u.c] w (DoQ w (el2 op k T0.ty T1.ty x y xs ys)) := by
  refine edo_any _ u _ w fun wx hx => bdo_any _ u _ _ wx (nz_node (nz_out2 _ _ _ _ _)) (fun l => nz_made _ _ _ _) (fun wy hy => ?_) (fun wy ty dv l hy hr hd => ?_)
  · refine bnode_any ⟨op, ⟨#[]⟩, iv, out, nilS⟩ u [(T0, (x, xs)), (T1, (y, ys))] _ wy (hv.more (grown_trans hx hy)) (by simp) fun wz s vs hz hvs h1 h2 => ?_
    obtain ⟨v0, v1, rfl, e0, e1⟩ := two_vals h1 h2
    have key := eout2 op out iv i1 i2 hop hck ho s v0 v1 x y wz (hl.more (grown_trans (grown_trans hx hy) hz)) (hi.more (grown_trans (grown_trans hx hy) hz)) hvs
    rw [e0, e1] at key
    exact key
  · have hvy := hv.more (grown_trans hx hy)
    refine made_two ⟨op, ⟨#[]⟩, iv, out, nilS⟩ hop u [(T0, (x, xs)), (T1, (y, ys))] _ ty dv l (F2 k T0.ty) (prod l).toNat wy hvy (by simp) (by simp) hd ?_ (fun p hp ha => (asL_len (by simpa [asOk] using ha)).1) (fun zs => hF _ _) fun wz p1 p2 B zs hz hb1 hb2 hzl hzi => ?_
    · have := (fine_of (out2_inv (node_inv hr).2).2.2.2.2.2.2).le
      omega
    · obtain ⟨ua, un, uc⟩ := u
      obtain ⟨ub, uo, rfl⟩ := hvy.vals.addr (k := 0) (by simp)
      obtain ⟨xa, xc, e1, -⟩ := hvy.vals.form
      simp only [Sl.v, List.map_cons, List.map_nil, List.length_cons, List.length_nil, Value.slice.injEq] at e1
      obtain ⟨-, rfl, -⟩ := e1
      obtain ⟨c0, -, -⟩ := (hvy.more hz).at 0 (by simp)
      obtain ⟨zb, zo, ez, hc⟩ := hzi.get (k := 0) (by simp at hzl; omega)
      cases ez
      have d0 := hc 0 (by simp at hzl; omega)
      have d1 := hc 1 (by simp at hzl; omega)
      exact WK ⟨op, ⟨#[]⟩, iv, out, nilS⟩ rfl p1 p2 B ub uo _ uc T0.ty (zs.getD 0 0) (zs.getD 1 0) wz hb1 hb2 (by omega) (by simpa using c0) (by simpa using d0) (by simpa using d1)

/-- What a closure of one does. -/
def Work1 (op : ByteArray) (k : Nat) : Prop := ∀ (n : Nod) (_ : n.op = op) (p1 p2 B : Nat) (ub uo un uc : Nat) (ty x : Int) (w : World) (_ : BoxN w p1 n) (_ : BoxT w p2 ⟨some ⟨ub, uo, none⟩, un, uc⟩) (_ : 0 < un) (_ : w.cell? ⟨ub, uo, none⟩ = some (.int .i64 ty)) (_ : w.cell? ⟨B, 0, none⟩ = some (.int .i64 x)),
    Calls Tryz.prog 19 #[.slice (some ⟨B, 0, none⟩) 1 1, .pointer (some ⟨p1, 0, none⟩), .pointer (some ⟨p2, 0, none⟩)] w fun e w' => e = .returned (.tuple #[.int .i64 (Nu.un k ty x).1, .int .i64 (Nu.un k ty x).2]) ∧ ∃ q, w' = w.drewN q

theorem elem1 (op out : ByteArray) (iv : Sl) (i1 : ByteArray) (k : Nat) (hop : op ∈ ([⟨#[78, 111, 116]⟩] : List ByteArray)) (WK : Work1 op k) (hck : checkF (ruleF op) op [i1] out [] [] = 0) (ho : out.size ≤ 1048576) (u : Sl) (T0 : Ten) (x xs : List Int) (w : World) (hl : Laid w) (hi : IsStrs w iv.v [i1]) (hv : TensIn w u.v [(T0, (x, xs))]) (hF : ∀ a, -9223372036854775808 ≤ (Nu.un k T0.ty a).1 ∧ (Nu.un k T0.ty a).1 ≤ 9223372036854775807) :
    Calls Tryz.prog 7 #[nval ⟨op, ⟨#[]⟩, iv, out, nilS⟩, .slice u.a u.n u.c] w (DoQ w (el1 op k T0.ty x xs)) := by
  refine edo_any _ u _ w fun wx hx => bdo_any _ u _ _ wx (nz_node (nz_out1 _ _ _)) (fun l => nz_made _ _ _ _) (fun wy hy => ?_) (fun wy ty dv l hy hr hd => ?_)
  · refine bnode_any ⟨op, ⟨#[]⟩, iv, out, nilS⟩ u [(T0, (x, xs))] _ wy (hv.more (grown_trans hx hy)) (by simp) fun wz s vs hz hvs h1 h2 => ?_
    obtain ⟨v0, rfl, e0⟩ := one_val h1 h2
    have key := eout1 op out iv i1 hop hck ho s v0 x wz (hl.more (grown_trans (grown_trans hx hy) hz)) (hi.more (grown_trans (grown_trans hx hy) hz)) hvs
    rw [e0] at key
    exact key
  · have hvy := hv.more (grown_trans hx hy)
    refine made_one ⟨op, ⟨#[]⟩, iv, out, nilS⟩ hop u [(T0, (x, xs))] _ ty dv l (F1 k T0.ty) (prod l).toNat wy hvy (by simp) (by simp) hd ?_ (fun p hp ha => (asL_len (by simpa [asOk] using ha)).1) (fun zs => hF _) fun wz p1 p2 B zs hz hb1 hb2 hzl hzi => ?_
    · obtain ⟨-, -, h1, rfl⟩ := out1_inv (node_inv hr).2
      have := (fine_of h1).le
      omega
    · obtain ⟨ua, un, uc⟩ := u
      obtain ⟨ub, uo, rfl⟩ := hvy.vals.addr (k := 0) (by simp)
      obtain ⟨xa, xc, e1, -⟩ := hvy.vals.form
      simp only [Sl.v, List.map_cons, List.map_nil, List.length_cons, List.length_nil, Value.slice.injEq] at e1
      obtain ⟨-, rfl, -⟩ := e1
      obtain ⟨c0, -, -⟩ := (hvy.more hz).at 0 (by simp)
      obtain ⟨zb, zo, ez, hc⟩ := hzi.get (k := 0) (by simp at hzl; omega)
      cases ez
      have d0 := hc 0 (by simp at hzl; omega)
      exact WK ⟨op, ⟨#[]⟩, iv, out, nilS⟩ rfl p1 p2 B ub uo _ uc T0.ty (zs.getD 0 0) wz hb1 hb2 (by omega) (by simpa using c0) (by simpa using d0)
end Go.Proofs.YtnifbdcgobnjeaaGreatDoor

/- ElemNot, over plain lists. -/
namespace Go.Proofs.YtnifbdcgobnjeaaGreatDoor
open Go.RowKit

theorem bcL_self (l : List Int) : ∀ k, k ≤ l.length → bcL l l k = l.drop (l.length - k)
  | 0, _ => by simp [bcL]
  | k + 1, h => by
    have ih := bcL_self l k (by omega)
    rw [bcL, ih]
    have e : bh l k = l[l.length - (k + 1)] := by
      simp only [bh]
      rw [List.getD, List.getElem?_eq_getElem (by omega)]
      simp [show l.length - 1 - k = l.length - (k + 1) by omega]
      intro h'
      omega
    rw [e, List.drop_eq_getElem_cons (by omega : l.length - (k + 1) < l.length), show l.length - (k + 1) + 1 = l.length - k by omega]
    simp

theorem bad_self (l : List Int) : ∀ k, bcBad l l k = false
  | 0 => rfl
  | k + 1 => by simp [bcBad, apartAt, bad_self l k]

/-- Spread to what they are, dims stay. -/
theorem bc_self {l : List Int} (h : cntE l = 0) : bcE l l = 0 ∧ bcR l l = l := by
  have e : bcL l l (rank l l) = l := by
    rw [rank, Nat.max_self, bcL_self l _ (Nat.le_refl _)]
    simp
  have h1 : bcE l l = 0 := by
    unfold bcE
    rw [if_neg (by simp [h]), if_neg (by simp [h]), bad_self, if_neg (by simp), e, h]
  exact ⟨h1, by rw [bcR, if_pos h1, e]⟩

/-- A tensor, gone through by its own dims. -/
theorem as_self {l zs : List Int} (h : cntE l = 0) (hl : (zs.length : Int) = prod l) : asE l zs l = 0 ∧ asL l zs l = zs := by
  obtain ⟨b1, b2⟩ := bc_self h
  obtain ⟨r1, r2⟩ := Vw.rd_all (fine_of h) hl
  have e : Vw.spr l (strd l) l = strd l := Vw.spr_same (strd_length l)
  have h1 : asE l zs l = 0 := by
    unfold asE
    rw [if_neg (by simp [h]), if_neg (by simp [b1]), if_pos b2, e, r1]
  exact ⟨h1, by rw [asL, if_pos h1, e, r2]⟩

theorem asE_len {ds ts us l : List Int} (h : ts.length = us.length) : asE ds ts l = asE ds us l := by
  unfold asE Vw.rdE Vw.rdOk
  rw [h]

theorem asE_inv {ds ts l : List Int} (h : asE ds ts l = 0) : Vw.rdOk 0 l (Vw.spr ds (strd ds) l) ts = true ∧ asL ds ts l = Vw.shows 0 l (Vw.spr ds (strd ds) l) ts := by
  have h0 := h
  unfold asE at h
  by_cases h1 : cntE ds ≠ 0
  · rw [if_pos h1] at h; exact absurd h h1
  rw [if_neg h1] at h
  by_cases h2 : bcE ds l ≠ 0
  · rw [if_pos h2] at h; exact absurd h h2
  rw [if_neg h2] at h
  by_cases h3 : bcR ds l = l
  · rw [if_pos h3] at h
    unfold Vw.rdE at h
    by_cases h4 : Vw.rdOk 0 l (Vw.spr ds (strd ds) l) ts = true
    · refine ⟨h4, ?_⟩
      rw [asL, if_pos h0, Vw.rdL, if_pos h4]
    · rw [if_neg h4] at h; omega
  · rw [if_neg h3] at h; omega

/-- Where something is done to each element ahead, it is as if it were done behind. -/
theorem as_map {ds ts l : List Int} (f : Int → Int) (h : asE ds ts l = 0) : asE ds (ts.map f) l = 0 ∧ asL ds (ts.map f) l = (asL ds ts l).map f ∧ ∀ z ∈ asL ds ts l, z ∈ ts := by
  have h1 : asE ds (ts.map f) l = 0 := by rw [asE_len (us := ts) (by simp), h]
  obtain ⟨a1, a2⟩ := asE_inv h
  obtain ⟨b1, b2⟩ := asE_inv h1
  have hm : Vw.MayV 0 l (Vw.spr ds (strd ds) l) := Vw.mayB_iff.1 (by unfold Vw.rdOk at a1; exact (Bool.and_eq_true_iff.1 a1).1)
  have hl : 0 + Vw.lst l (Vw.spr ds (strd ds) l) < ts.length := by
    unfold Vw.rdOk at a1
    simpa using (Bool.and_eq_true_iff.1 a1).2
  have hx : ∀ x ∈ Vw.plc l (Vw.spr ds (strd ds) l) 0, x.toNat < ts.length := by
    intro x hx
    obtain ⟨g1, g2⟩ := Vw.plc_mem l _ 0 (fun y hy => (hm.str y hy).1) hm.fine.pos x hx
    omega
  refine ⟨h1, ?_, ?_⟩
  · rw [a2, b2]
    unfold Vw.shows
    rw [List.map_map]
    refine List.map_congr_left fun x hx' => ?_
    have := hx x hx'
    simp [List.getD, this]
  · rw [a2]
    intro z hz
    obtain ⟨x, hx', rfl⟩ := List.mem_map.1 hz
    have := hx x hx'
    simp [List.getD, this]

theorem evL_inv (F : List Int → Int × Int) (cs : List (List Int)) : ∀ (m k : Nat) (zs : List Int), evL F cs k m = .ok zs → zs = (List.range' k m).map (fun j => (F (cs.map (·.getD j 0))).1) ∧ ∀ j ∈ List.range' k m, (F (cs.map (·.getD j 0))).2 = 0
  | 0, _, zs, h => by cases h; simp
  | m + 1, k, zs, h => by
    simp only [evL] at h
    split at h
    · rename_i h0
      cases he : evL F cs (k + 1) m with
      | error d => rw [he] at h; cases h
      | ok us =>
        rw [he] at h
        cases h
        obtain ⟨h1, h2⟩ := evL_inv F cs m (k + 1) us he
        refine ⟨by rw [h1]; simp [List.range'_succ], fun j hj => ?_⟩
        rw [List.range'_succ] at hj
        rcases List.mem_cons.1 hj with rfl | hj
        · exact h0
        · exact h2 j hj
    · cases h

theorem evL_ok (F : List Int → Int × Int) (cs : List (List Int)) : ∀ (m k : Nat), (∀ j ∈ List.range' k m, (F (cs.map (·.getD j 0))).2 = 0) → evL F cs k m = .ok ((List.range' k m).map (fun j => (F (cs.map (·.getD j 0))).1))
  | 0, _, _ => by simp [evL]
  | m + 1, k, h => by
    have ih := evL_ok F cs m (k + 1) (fun j hj => h j (by rw [List.range'_succ]; exact List.mem_cons_of_mem _ hj))
    simp only [evL]
    rw [if_pos (h k (by rw [List.range'_succ]; simp)), ih]
    simp [Except.map, List.range'_succ]

def nt (z : Int) : Int := 1 - z

def bit (z : Int) : Prop := z = 0 ∨ z = 1

theorem chk9 {z : Int} : chk 9 z = true ↔ bit z := by
  unfold chk bit
  simp

theorem nchk9 {z : Int} : Nu.chk 9 z = true ↔ bit z := by
  unfold Nu.chk bit
  simp

theorem pb9 {x xs : List Int} (h : pbE 9 x xs = 0) : cntE x = 0 ∧ (xs.length : Int) = prod x ∧ ∀ z ∈ xs, bit z := by
  unfold pbE at h
  rw [if_neg (by simp [chk])] at h
  by_cases h1 : cntE x ≠ 0
  · rw [if_pos h1] at h; exact absurd h h1
  rw [if_neg h1] at h
  have h1' : cntE x = 0 := by omega
  by_cases h2 : (xs.length : Int) ≠ cnt x
  · rw [if_pos h2] at h; omega
  rw [if_neg h2] at h
  by_cases h3 : xs.all (chk 9) = true
  · refine ⟨h1', ?_, fun z hz => chk9.1 (List.all_eq_true.1 h3 z hz)⟩
    have : (xs.length : Int) = cnt x := by omega
    rw [this, cnt, if_pos h1']
  · rw [if_neg h3] at h; omega

theorem pb9' {x xs : List Int} (h1 : cntE x = 0) (h2 : (xs.length : Int) = prod x) (h3 : ∀ z ∈ xs, bit z) : pbE 9 x xs = 0 := by
  unfold pbE
  rw [if_neg (by simp [chk]), if_neg (by simp [h1]), if_neg (by rw [cnt, if_pos h1, h2]; simp), if_pos (List.all_eq_true.2 fun z hz => chk9.2 (h3 z hz))]

theorem bit_nt {z : Int} (h : bit z) : bit (nt z) := by
  unfold bit nt at *
  omega

theorem getD_bit {zs : List Int} (h : ∀ z ∈ zs, bit z) (j : Nat) : bit (zs.getD j 0) := by
  by_cases hj : j < zs.length
  · rw [List.getD, List.getElem?_eq_getElem hj]
    exact h _ (List.getElem_mem hj)
  · rw [List.getD, List.getElem?_eq_none (by omega)]
    exact Or.inl rfl

theorem getD_nt {zs : List Int} {j : Nat} (hj : j < zs.length) : (zs.map nt).getD j 0 = nt (zs.getD j 0) := by
  simp [List.getD, hj]

theorem F1_nt {z : Int} (h : bit z) : F1 3 9 [z] = (nt z, 0) := by
  unfold F1 Nu.un
  simp only [List.getD_cons_zero]
  rw [if_pos (nchk9.2 h)]
  rfl

theorem F2_and {a b : Int} (ha : bit a) (hb : bit b) : F2 6 9 [a, b] = (a * b, 0) := by
  unfold F2 Nu.bin
  simp only [List.getD_cons_zero, List.getD_cons_succ]
  rw [if_pos (by rw [nchk9.2 ha, nchk9.2 hb]; rfl)]
  rfl

theorem F2_or {a b : Int} (ha : bit a) (hb : bit b) : F2 7 9 [a, b] = (a + b - a * b, 0) := by
  unfold F2 Nu.bin
  simp only [List.getD_cons_zero, List.getD_cons_succ]
  rw [if_pos (by rw [nchk9.2 ha, nchk9.2 hb]; rfl)]
  rfl

theorem iota_map (zs : List Int) (f : Int → Int) : (List.range' 0 zs.length).map (fun j => f (zs.getD j 0)) = zs.map f := by
  refine List.ext_getElem (by simp) fun i h1 h2 => ?_
  simp [List.getD, show i < zs.length by simpa using h2]

/-- Not of a tensor of yes and no. -/
theorem not_ok {x xs : List Int} (h : pbE 9 x xs = 0) : el1 ⟨#[78, 111, 116]⟩ 3 9 x xs = .ok (9, x, xs.map nt) := by
  obtain ⟨h1, h2, h3⟩ := pb9 h
  obtain ⟨a1, a2⟩ := as_self h1 h2
  have hn : nodeP [tq 9 x xs] (out1F ⟨#[78, 111, 116]⟩ 9 x) = .ok (9, x) := by
    unfold nodeP
    rw [if_pos (by simp [tq, okT, h])]
    unfold out1F
    rw [show countP x = .ok (prod x) from if_pos h1, show oneOK (ByteArray.toList ⟨#[78, 111, 116]⟩) 9 = true from by kernel_rfl]
    rfl
  have hm : madeR (F1 3 9) [tq 9 x xs] x (prod x).toNat = .ok (xs.map nt) := by
    unfold madeR
    rw [if_pos (by simp [tq, asOk, a1])]
    have e : (prod x).toNat = xs.length := by omega
    rw [e, evL_ok]
    · congr 1
      rw [← iota_map xs nt]
      refine List.map_congr_left fun j hj => ?_
      simp only [tq, colP, List.map_cons, List.map_nil, a2]
      rw [F1_nt (getD_bit h3 j)]
    · intro j hj
      simp only [tq, colP, List.map_cons, List.map_nil, a2]
      rw [F1_nt (getD_bit h3 j)]
  unfold el1 doR
  rw [hn]
  simp only [hm]
  rfl

theorem two9 {t : Int} (h : twoOK (ByteArray.toList ⟨#[65, 110, 100]⟩) t = true) : t = 9 := by
  rw [show ByteArray.toList ⟨#[65, 110, 100]⟩ = [65, 110, 100] from by kernel_rfl] at h
  unfold twoOK at h
  by_cases h9 : t = 9
  · exact h9
  · simp [h9] at h

/-- What ElemNot says. -/
theorem not_law {t0 t1 t : Int} {x y xs ys l zs : List Int} (h : el2 ⟨#[65, 110, 100]⟩ 6 t0 t1 x y xs ys = .ok (t, l, zs)) :
    t0 = 9 ∧ t1 = 9 ∧ t = 9 ∧ el1 ⟨#[78, 111, 116]⟩ 3 9 l zs = .ok (9, l, zs.map nt) ∧ el1 ⟨#[78, 111, 116]⟩ 3 9 x xs = .ok (9, x, xs.map nt) ∧ el1 ⟨#[78, 111, 116]⟩ 3 9 y ys = .ok (9, y, ys.map nt) ∧ el2 ⟨#[79, 114]⟩ 7 9 9 x y (xs.map nt) (ys.map nt) = .ok (9, l, zs.map nt) := by
  unfold el2 doR at h
  split at h
  · rename_i ty l' hn
    obtain ⟨hok, ho⟩ := node_inv hn
    obtain ⟨e1, e2, e3, cx, cy, hs, cl⟩ := out2_inv ho
    have h9 := two9 e3
    subst h9
    subst e2
    dsimp only at h
    cases hm : madeR (F2 6 9) [tq 9 x xs, tq 9 y ys] l' (prod l').toNat with
    | error c => rw [hm] at h; cases h
    | ok us =>
      rw [hm] at h
      cases h
      simp only [tq, okT, List.all_cons, List.all_nil, Bool.and_true, Bool.and_eq_true, beq_iff_eq] at hok
      obtain ⟨px, py⟩ := hok
      obtain ⟨-, lx, bx⟩ := pb9 px
      obtain ⟨-, ly, by'⟩ := pb9 py
      unfold madeR at hm
      split at hm
      · rename_i hall
        simp only [tq, asOk, List.all_cons, List.all_nil, Bool.and_true, Bool.and_eq_true, beq_iff_eq] at hall
        obtain ⟨sx, sy⟩ := hall
        obtain ⟨n1, -⟩ := asL_len sx
        obtain ⟨n2, -⟩ := asL_len sy
        obtain ⟨mx1, mx2, mx3⟩ := as_map nt sx
        obtain ⟨my1, my2, my3⟩ := as_map nt sy
        obtain ⟨z1, z2⟩ := evL_inv _ _ _ _ _ hm
        simp only [tq, colP, List.map_cons, List.map_nil] at z1
        have bA : ∀ z ∈ asL x xs l, bit z := fun z hz => bx z (mx3 z hz)
        have bB : ∀ z ∈ asL y ys l, bit z := fun z hz => by' z (my3 z hz)
        have z3 : zs = (List.range' 0 (prod l).toNat).map (fun j => (asL x xs l).getD j 0 * (asL y ys l).getD j 0) := by
          rw [z1]
          refine List.map_congr_left fun j hj => ?_
          rw [F2_and (getD_bit bA j) (getD_bit bB j)]
        have zl : (zs.length : Int) = prod l := by
          rw [z3, List.length_map, List.length_range']
          have := (fine_of cl).prod_pos
          omega
        have zb : ∀ z ∈ zs, bit z := by
          intro z hz
          rw [z3] at hz
          obtain ⟨j, -, rfl⟩ := List.mem_map.1 hz
          have p := getD_bit bA j
          have q := getD_bit bB j
          unfold bit at *
          rcases p with p | p <;> rcases q with q | q <;> rw [p, q] <;> decide
        refine ⟨rfl, rfl, e1, not_ok (pb9' cl zl zb), not_ok px, not_ok py, ?_⟩
        have px' : pbE 9 x (xs.map nt) = 0 := pb9' cx (by rw [List.length_map]; exact lx) (fun z hz => by obtain ⟨a, ha, rfl⟩ := List.mem_map.1 hz; exact bit_nt (bx a ha))
        have py' : pbE 9 y (ys.map nt) = 0 := pb9' cy (by rw [List.length_map]; exact ly) (fun z hz => by obtain ⟨a, ha, rfl⟩ := List.mem_map.1 hz; exact bit_nt (by' a ha))
        have hn' : nodeP [tq 9 x (xs.map nt), tq 9 y (ys.map nt)] (out2F ⟨#[79, 114]⟩ 9 9 x y) = .ok (9, l) := by
          unfold nodeP
          rw [if_pos (by simp [tq, okT, px', py'])]
          unfold out2F
          rw [show twoOK (ByteArray.toList ⟨#[79, 114]⟩) = twoOK [79, 114] from by rw [show ByteArray.toList ⟨#[79, 114]⟩ = [79, 114] from by kernel_rfl], show countP x = .ok (prod x) from if_pos cx, show countP y = .ok (prod y) from if_pos cy, hs]
          show (Except.bind (countP l) fun _ => (Except.ok (9, l) : R (Int × List Int))) = .ok (9, l)
          rw [show countP l = .ok (prod l) from if_pos cl]
          rfl
        have hm' : madeR (F2 7 9) [tq 9 x (xs.map nt), tq 9 y (ys.map nt)] l (prod l).toNat = .ok (zs.map nt) := by
          unfold madeR
          rw [if_pos (by simp [tq, asOk, mx1, my1])]
          have step : ∀ j ∈ List.range' 0 (prod l).toNat, F2 7 9 ([colP l (tq 9 x (xs.map nt)), colP l (tq 9 y (ys.map nt))].map (·.getD j 0)) = (nt ((asL x xs l).getD j 0 * (asL y ys l).getD j 0), 0) := by
            intro j hj
            have hj' : j < (prod l).toNat := by
              have := List.mem_range'_1.1 hj
              omega
            simp only [tq, colP, List.map_cons, List.map_nil, mx2, my2]
            rw [getD_nt (by omega), getD_nt (by omega), F2_or (bit_nt (getD_bit bA j)) (bit_nt (getD_bit bB j))]
            congr 1
            have p := getD_bit bA j
            have q := getD_bit bB j
            unfold bit at *
            unfold nt
            rcases p with p | p <;> rcases q with q | q <;> rw [p, q] <;> decide
          rw [show [tq 9 x (xs.map nt), tq 9 y (ys.map nt)].map (colP l) = [colP l (tq 9 x (xs.map nt)), colP l (tq 9 y (ys.map nt))] from rfl, evL_ok _ _ _ _ (fun j hj => by rw [step j hj])]
          congr 1
          rw [z3, List.map_map]
          refine List.map_congr_left fun j hj => ?_
          rw [step j hj]
          rfl
        unfold el2 doR
        rw [hn']
        simp only [hm']
        rfl
      · cases hm
  · cases h
end Go.Proofs.YtnifbdcgobnjeaaGreatDoor
