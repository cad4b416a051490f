/- elem.made, by the walk. -/
import Derived.Test.YteigfipgmghgmaaGreatDoorEAs
import Derived.Test.YteigfipgmghgmaaGreatDoorEWork
namespace Go.Proofs.YteigfipgmghgmaaGreatDoor
open Go.RowKit

/-- What comes out, of the columns. -/
def evL (F : List Int → Int × Int) (cs : List (List Int)) : Nat → Nat → R (List Int)
  | _, 0 => .ok []
  | k, m + 1 => if (F (cs.map (·.getD k 0))).2 = 0 then (evL F cs (k + 1) m).map ((F (cs.map (·.getD k 0))).1 :: ·) else .error (F (cs.map (·.getD k 0))).2

theorem evE_evL (F : List Int → Int × Int) (cols : List (Sl × List Int)) : ∀ (m k : Nat), evE F cols k m = evL F (cols.map (·.2)) k m
  | 0, _ => rfl
  | m + 1, k => by
    have h : colAt cols k = (cols.map (·.2)).map (·.getD k 0) := by unfold colAt; rw [List.map_map]; rfl
    simp only [evE, evL, h, evE_evL F cols m (k + 1)]

def colP (l : List Int) (p : Ten × Tq) : List Int := asL p.2.1 p.2.2 l
def asOk (l : List Int) (p : Ten × Tq) : Bool := asE p.2.1 p.2.2 l == 0
def firstA (l : List Int) : List (Ten × Tq) → Int
  | [] => 0
  | p :: ps => if asOk l p = true then firstA l ps else asE p.2.1 p.2.2 l

def madeR (F : List Int → Int × Int) (ps : List (Ten × Tq)) (l : List Int) (N : Nat) : R (List Int) := if ps.all (asOk l) = true then evL F (ps.map (colP l)) 0 N else .error (firstA l ps)

theorem firstA_at {l : List Int} : ∀ {ps : List (Ten × Tq)} {k : Nat} (hk : k < ps.length), (ps.take k).all (asOk l) = true → asOk l ps[k] = false → firstA l ps = asE ps[k].2.1 ps[k].2.2 l ∧ ps.all (asOk l) = false
  | [], k, hk, _, _ => by simp at hk
  | p :: ps, 0, _, _, h => by
    simp only [List.getElem_cons_zero] at h ⊢
    simp [firstA, h]
  | p :: ps, k + 1, hk, ha, h => by
    simp only [List.take_succ_cons, List.all_cons, Bool.and_eq_true] at ha
    simp only [List.getElem_cons_succ] at h ⊢
    obtain ⟨h1, h2⟩ := firstA_at (by simpa using hk) ha.2 h
    simp [firstA, ha.1, h1, h2]

theorem scellS_one (s : Sl) : ∀ u ∈ scellS s, u.oneCell' = true := by
  intro u hu
  simp only [scellS, List.mem_cons, List.not_mem_nil, or_false] at hu
  rcases hu with rfl
  rfl

theorem infoColE : (Tryz.prog.info? 30).map (fun i => (i.zero, i.size, i.bytes)) = some (some (.slice none 0 0), 1, 24) := by kernel_rfl

/-- Two lists whose elements are of other types do not lie in one block. -/
theorem apart_te {w : World} {b1 b2 t1 t2 s1 s2 n1 n2 : Nat} {v1 v2 : Value} {c1 c2 : List Value} (h1 : w.ownsRow b1 t1 s1 v1 n1 c1) (h2 : w.ownsRow b2 t2 s2 v2 n2 c2) (ht : t1 ≠ t2) : v1.ownBlock = none ∨ v1.ownBlock ≠ v2.ownBlock := by
  rcases h1.2 with ⟨e, -⟩ | ⟨g, cap, cur, e, -, hg, -⟩
  · exact .inl (by rw [e]; rfl)
  · rcases h2.2 with ⟨e', -⟩ | ⟨g', cap', cur', e', -, hg', -⟩
    · exact .inr (by rw [e, e']; simp [Value.ownBlock])
    · refine .inr ?_
      rw [e, e']
      simp only [Value.ownBlock, ne_eq, Option.some.injEq]
      rintro rfl
      rw [hg] at hg'
      simp only [Option.some.injEq, Obj.cells.injEq] at hg'
      exact ht hg'.2.1

def BoxN (w : World) (B : Nat) (n : Nod) : Prop := w.heap[B]? = some (.cells #[.string n.op, .string n.name, .slice n.iv.a n.iv.n n.iv.c, .string n.out, .slice n.av.a n.av.n n.av.c] 25 (0, 0))
def BoxT (w : World) (B : Nat) (u : Sl) : Prop := w.heap[B]? = some (.cells #[.slice u.a u.n u.c] 26 (0, 0))

set_option maxRecDepth 100000 in
set_option maxHeartbeats 8000000 in
theorem made_one (n : Nod) (hop : n.op ∈ ([⟨#[78, 111, 116]⟩] : List ByteArray)) (u : Sl) (ps : List (Ten × Tq)) (nam0 : ByteArray) (vty : Int) (dv : Sl) (l : List Int) (F : List Int → Int × Int) (N : Nat) (w : World) (hv : TensIn w u.v ps) (hp0 : 0 < ps.length) (hp1 : ps.length ≤ 1000) (hd : IsInts w dv.v l) (hN : N ≤ 65536) (hL : ∀ p ∈ ps, asOk l p = true → (colP l p).length = N) (hF : ∀ xs, -9223372036854775808 ≤ (F xs).1 ∧ (F xs).1 ≤ 9223372036854775807)
    (WC : ∀ (wx : World) (p1 p2 B : Nat) (xs : List Int), w.grownBy wx none → BoxN wx p1 n → BoxT wx p2 u → xs.length = ps.length → IsInts wx (.slice (some ⟨B, 0, none⟩) ps.length ps.length) xs → Calls Tryz.prog 28 #[.slice (some ⟨B, 0, none⟩) ps.length ps.length, .pointer (some ⟨p1, 0, none⟩), .pointer (some ⟨p2, 0, none⟩)] wx fun e w' => e = .returned (.tuple #[.int .i64 (F xs).1, .int .i64 (F xs).2]) ∧ ∃ q, w' = wx.drewN q) :
    Calls Tryz.prog 14 #[nval n, .slice u.a u.n u.c, .agg #[.string nam0, .int .i64 vty, .slice dv.a dv.n dv.c]] w (EvQ w (madeR F ps l N)) := by
  obtain ⟨i0, hi, hz0, hz1, hz2⟩ := info_parts infoColE
  obtain ⟨xa, xc, e1, p1, p2, p3⟩ := hv.vals.form
  rw [List.length_map] at e1 p1 p3
  obtain ⟨ua, un, uc⟩ := u
  simp only [Sl.v, Value.slice.injEq] at e1
  obtain ⟨rfl, rfl, rfl⟩ := e1
  have HV := hide hv
  have HD := hide hd
  have HLN := hide hL
  have HF := hide hF
  have HWC := hide WC
  clear hv hd hL hF WC
  obtain ⟨w0, hw0⟩ : ∃ w0, w0 = (w.alloc (.cells #[.string n.op, .string n.name, .slice n.iv.a n.iv.n n.iv.c, .string n.out, .slice n.av.a n.av.n n.av.c] 25)).alloc (.cells #[.string nam0, .int .i64 vty, .slice dv.a dv.n dv.c] 53) := ⟨_, rfl⟩
  have g0 : Hid (w.grownBy w0 none) := by show w.grownBy w0 none; rw [hw0]; exact grown_trans (grown_new _ _) (grown_new _ _)
  have hbx := two_boxes w (.cells #[.string n.op, .string n.name, .slice n.iv.a n.iv.n n.iv.c, .string n.out, .slice n.av.a n.av.n n.av.c] 25) (.cells #[.string nam0, .int .i64 vty, .slice dv.a dv.n dv.c] 53)
  rw [← hw0] at hbx
  have BX : Hid (∀ wx, w0.grownBy wx none → wx.heap[w.heap.size + 1]? = some (.cells #[.string nam0, .int .i64 vty, .slice dv.a dv.n dv.c] 53 (0, 0))) := fun wx hg => box_kept hbx.2 hg
  have WO := hide (workof1_any n hop ⟨ua, ps.length, uc⟩ (.string nam0) (.int .i64 vty) (.slice dv.a dv.n dv.c) w0)
  clear hbx
  obtain ⟨dva, dvn, dvc⟩ := dv
  obtain ⟨op, nam, ⟨ia, il, ic⟩, out, ⟨ao, al, cap⟩⟩ := n
  unfold nval at WO ⊢
  simp only at WO BX hw0 ⊢
  go_enter Tryz.func14, Tryz.ntmps14
  go_wp2_with fail
  rw [← hw0]
  clear hw0
  refine WO.out.mono ?_
  rintro e w1 ⟨rfl, hg1, hb1, hb2⟩
  have G1 := hide hg1
  have BN : Hid (∀ wx, w1.grownBy wx none → BoxN wx w0.heap.size ⟨op, nam, ⟨ia, il, ic⟩, out, ⟨ao, al, cap⟩⟩ ∧ BoxT wx (w0.heap.size + 1) ⟨ua, ps.length, uc⟩) := fun wx hg => ⟨box_kept hb1 hg, box_kept hb2 hg⟩
  clear hg1 hb1 hb2
  have hbo : ∀ wx, (binOp .eql 58 (.func (.func 28) #[] #[.pointer (some ⟨w0.heap.size, 0, none⟩), .pointer (some ⟨w0.heap.size + 1, 0, none⟩)]) .nilFunc).run Tryz.prog wx = .ok (.bool false) wx := fun wx => by rfl
  obtain ⟨q1, hq1⟩ : ∃ q, q = w0.heap.size := ⟨_, rfl⟩
  obtain ⟨q2, hq2⟩ : ∃ q, q = w0.heap.size + 1 := ⟨_, rfl⟩
  rw [← hq2, ← hq1] at BN hbo ⊢
  clear hq1 hq2
  go_wp2_with fail
  go_loopw [9, 22] (fun v i wr => w1.grownBy wr none ∧ ∃ (k : Nat) (va : Option Addr) (vc : Nat) (cols : List (Sl × List Int)), k ≤ ps.length ∧ i = .int .i64 k ∧ v = .slice va k vc ∧ cols.length = k ∧ cols.map (·.2) = (ps.take k).map (colP l) ∧ (ps.take k).all (asOk l) = true ∧ OwnsL 30 1 scellS wr w1.heap.size (.slice va k vc) (cols.map (·.1)) ∧ ∀ c ∈ cols, OwnsE wr w1.heap.size c.1.v c.2) (fun _ i _ => ps.length - (intOf i).toNat)
  case atStart => exact ⟨grown_refl _, 0, none, 0, [], Nat.zero_le _, rfl, rfl, rfl, rfl, rfl, OwnsL.nil .., fun c hc => by simp at hc⟩
  case round =>
    obtain ⟨hg, k, va, vc, cols, hk, rfl, rfl, hcl, hcm, hall, hown, hin⟩ := hrel
    have HG := hide hg
    have HO := hide hown
    have HAL := hide hall
    have HCL := hide hcl
    have HCM := hide hcm
    have HIN := hide hin
    clear hown hall hcl hcm hin
    have gw := hide (grown_trans g0.out (grown_trans G1.out hg))
    by_cases hlt : k < ps.length
    · obtain ⟨b, off, rfl⟩ := HV.out.vals.addr (k := k) (by rw [List.length_map]; exact hlt)
      obtain ⟨a0, a1, a2⟩ := (HV.out.more gw.out).at k hlt
      have HH := hide (HV.out.has ps[k] (List.getElem_mem hlt))
      have HT : Hid ((ps.take (k + 1)).all (asOk l) = ((ps.take k).all (asOk l) && asOk l ps[k])) := by
        show _ = _
        rw [List.take_add_one, List.all_append, List.getElem?_eq_getElem hlt]
        simp
      have HM : Hid ((ps.take (k + 1)).map (colP l) = (ps.take k).map (colP l) ++ [colP l ps[k]]) := by
        show _ = _
        rw [List.take_add_one, List.map_append, List.getElem?_eq_getElem hlt]
        rfl
      have HBAD : Hid (asOk l ps[k] = false → madeR F ps l N = .error (asE ps[k].2.1 ps[k].2.2 l)) := fun h => by
        obtain ⟨h1, h2⟩ := firstA_at hlt HAL.out h
        unfold madeR
        rw [if_neg (by simp [h2]), h1]
      obtain ⟨p, hp⟩ : ∃ p, p = ps[k] := ⟨_, rfl⟩
      rw [← hp] at a0 a1 a2 HH HT HM HBAD
      obtain ⟨⟨ty, ⟨da, dn, dc⟩, ⟨ta, tn, tc⟩⟩, ⟨ds, ts⟩⟩ := p
      simp only at a0 a1 a2 HH HBAD
      obtain ⟨w2, hw2⟩ : ∃ w2, w2 = wr.alloc (.cells #[.int .i64 ty, .slice da dn dc, .slice ta tn tc] 32) := ⟨_, rfl⟩
      have g2 : Hid (wr.grownBy w2 none) := by show wr.grownBy w2 none; rw [hw2]; exact grown_new _ _
      have B2 := BX.out w2 (grown_trans (grown_trans G1.out hg) g2.out)
      have v2 : w2.cell? ⟨w.heap.size + 1, 2, none⟩ = some (.slice dva dvn dvc) := (cell_of_row _ _ 2 _ _ (0, 0) B2).trans rfl
      rw [hw2] at v2
      have AS := hide (as_any ⟨ty, ⟨da, dn, dc⟩, ⟨ta, tn, tc⟩⟩ ds ts l ⟨dva, dvn, dvc⟩ w2 ((HH.out.1.more gw.out).more g2.out) ((HH.out.2.more gw.out).more g2.out) ((HD.out.more gw.out).more g2.out))
      unfold tval at AS
      simp only at AS
      clear B2 hp hg
      go_wp2_with fail
      rw [← hw2]
      clear hw2 a0 a1 a2 v2
      refine AS.out.mono ?_
      rintro e w3 ⟨⟨sa, sn, sc⟩, rfl, ho3, hg3⟩
      have G3 := hide (grown_trans (grown_trans HG.out g2.out) hg3)
      have I3 := hide (OwnsE.ints (w := w3) (base := w2.heap.size) ho3)
      have hsz : w1.heap.size ≤ w3.heap.size := G3.out.size
      by_cases hok : asE ds ts l = 0
      · have bo : (asE ds ts l != 0) = false := by simp [hok]
        have HOK := hide hok
        have KL : Hid ((cols.map (·.1)).length = k) := by show _ = _; rw [List.length_map]; exact HCL.out
        have OW : Hid (∀ o, (w3.alloc o).ownsRow w1.heap.size 30 1 (.slice va k vc) k ((cols.map (·.1)).flatMap scellS)) := fun o => owns_row_atE ((HO.out.more (grown_trans g2.out hg3)).more (grown_new _ _)) KL.out
        have GI := hide (grown_trans g2.out hg3)
        have HS : Hid (∀ c ∈ cols ++ [((⟨sa, sn, sc⟩ : Sl), asL ds ts l)], OwnsE (w3.alloc (.cells #[.slice sa sn sc] 30)) w1.heap.size c.1.v c.2) := fun c hc => by
          rcases List.mem_append.1 hc with hc | hc
          · exact (HIN.out c hc).more (grown_trans GI.out (grown_new _ _)) (by cases c.1.v.ownBlock <;> simp)
          · obtain rfl := List.mem_singleton.1 hc
            exact OwnsE.more (w := w3) ⟨ownsRow_base ho3.1 (by have := HG.out.size; have := g2.out.size; omega), ho3.2⟩ (grown_new _ _) (by cases (Sl.v ⟨sa, sn, sc⟩).ownBlock <;> simp)
        clear hok ho3 hg3 AS
        go_wp2_with (at_builtin; refine wpList_append_lies _ rfl (.tmp 36) (.tmp 38) 60 rfl w1.heap.size 30 i0 (.slice none 0 0) 1 24 Tryz.underlying60 hi hz0 hz1 hz2 rfl (by decide) (.slice va k vc) k ((cols.map (·.1)).flatMap scellS) rfl (by exact OW.out _) ⟨w3.heap.size, 0, none⟩ 1 1 (scellS ⟨sa, sn, sc⟩) rfl rfl (by exact World.news_of_block (by have h := heap_alloc_new w3 (.cells #[.slice sa sn sc] 30); simpa using h)) (scellS_one _) (by omega) (by simp only [maxLen]; omega) (by omega) (by simp; omega) (w3.heap.size + 1) (by simp) ?_; intro gg cap8 w8 hown8 hgrow hat hlt8)
        have ST : Hid (w1.grownBy w8 none ∧ OwnsL 30 1 scellS w8 w1.heap.size (.slice (some ⟨gg, 0, none⟩) (k + 1) cap8) ((cols ++ [((⟨sa, sn, sc⟩ : Sl), asL ds ts l)]).map (fun c => c.1)) ∧ (ps.take (k + 1)).all (asOk l) = true ∧ (cols ++ [((⟨sa, sn, sc⟩ : Sl), asL ds ts l)]).map (fun c => c.2) = (ps.take (k + 1)).map (colP l) ∧ ∀ c ∈ cols ++ [((⟨sa, sn, sc⟩ : Sl), asL ds ts l)], OwnsE w8 w1.heap.size c.1.v c.2) := ⟨grown_trans_row (grown_trans G3.out (grown_new _ _)) hgrow (fun r e => (World.ownsRow.lt HO.out r e).1), by rw [List.map_append]; exact owns_at_rowE KL.out hown8, by rw [HT.out, HAL.out]; simp [asOk, HOK.out], by rw [HM.out, List.map_append, HCM.out]; rfl, fun c hc => by
          have h9 := HS.out c hc
          exact ⟨h9.1.kept hgrow (apart_te h9.1 (OW.out _) (by decide)), h9.2⟩⟩
        clear hown8 hgrow hat hlt8
        go_wp2_with fail
        go_roundw
        case rel => exact ⟨ST.out.1, k + 1, _, _, _, by omega, by go_num, rfl, by rw [List.length_append, HCL.out]; rfl, ST.out.2.2.2.1, ST.out.2.2.1, ST.out.2.1, ST.out.2.2.2.2⟩
        case measure => simp [intOf]; omega
      · have bo : (asE ds ts l != 0) = true := by simpa using hok
        have E : Hid (madeR F ps l N = .error (asE ds ts l)) := HBAD.out (by simpa [asOk] using hok)
        have GF := hide (grown_trans (grown_trans g0.out G1.out) G3.out)
        clear hok ho3 hg3 AS
        go_wp2
        go_ret2
        exact ev_err E.out GF.out
    · obtain rfl : k = ps.length := by omega
      have HOF := HO.out
      have EQ : Hid (madeR F ps l N = evE F cols 0 N) := by
        show _ = _
        have h1 := HAL.out
        have h2 := HCM.out
        rw [List.take_of_length_le (Nat.le_refl _)] at h1 h2
        unfold madeR
        rw [if_pos h1, evE_evL, h2]
      have CI : ∀ c ∈ cols, IsInts wr c.1.v c.2 ∧ c.2.length = N := fun c hc => ⟨(HIN.out c hc).ints, by
        have h1 := HAL.out
        have h2 := HCM.out
        rw [List.take_of_length_le (Nat.le_refl _)] at h1 h2
        have h3 : c.2 ∈ cols.map (·.2) := List.mem_map.2 ⟨c, hc, rfl⟩
        rw [h2] at h3
        obtain ⟨p, hp, e⟩ := List.mem_map.1 h3
        rw [← e]
        exact HLN.out p hp (List.all_eq_true.1 h1 p hp)⟩
      have EV := hide (every_one ⟨va, ps.length, vc⟩ cols N ps.length F q1 q2 wr (HOF.isL (bytes := 24) scellS_len (by rw [List.length_map, HCL.out]; omega)) CI HCL.out hp0 hp1 hN HF.out (fun wx B xs hgx hxl hxi => HWC.out wx q1 q2 B xs (grown_trans gw.out hgx) (BN.out wx (grown_trans hg hgx)).1 (BN.out wx (grown_trans hg hgx)).2 hxl hxi))
      simp only at EV
      clear HOF CI hg
      go_wp2_with fail
      refine EV.out.mono ?_
      rintro e w5 ⟨hg5, hq⟩
      have G5 := hide (grown_trans gw.out hg5)
      have Z5 : Hid (w.heap.size ≤ wr.heap.size) := gw.out.size
      obtain ⟨r, hr⟩ : ∃ r, r = evE F cols 0 N := ⟨_, rfl⟩
      rw [← hr] at hq EQ
      clear hr hg5 EV
      cases r with
      | error c =>
        obtain rfl := hq
        go_wp2
        go_ret2
        exact ev_err EQ.out G5.out
      | ok zs =>
        obtain ⟨⟨sa, sn, sc⟩, rfl, ho⟩ := hq
        have HO5 : Hid (OwnsE w5 w.heap.size (Sl.v ⟨sa, sn, sc⟩) zs) := ⟨ownsRow_base ho.1 Z5.out, ho.2⟩
        clear ho
        go_wp2
        go_ret2
        exact ev_ok EQ.out G5.out ⟨⟨sa, sn, sc⟩, rfl, HO5.out⟩

set_option maxRecDepth 100000 in
set_option maxHeartbeats 8000000 in
theorem made_two (n : Nod) (hop : n.op ∈ ([⟨#[65, 100, 100]⟩, ⟨#[83, 117, 98]⟩, ⟨#[77, 117, 108]⟩, ⟨#[68, 105, 118]⟩, ⟨#[77, 97, 120]⟩, ⟨#[77, 105, 110]⟩, ⟨#[65, 110, 100]⟩, ⟨#[79, 114]⟩, ⟨#[88, 111, 114]⟩, ⟨#[69, 113, 117, 97, 108]⟩, ⟨#[76, 101, 115, 115]⟩, ⟨#[71, 114, 101, 97, 116, 101, 114]⟩] : List ByteArray)) (u : Sl) (ps : List (Ten × Tq)) (nam0 : ByteArray) (vty : Int) (dv : Sl) (l : List Int) (F : List Int → Int × Int) (N : Nat) (w : World) (hv : TensIn w u.v ps) (hp0 : 0 < ps.length) (hp1 : ps.length ≤ 1000) (hd : IsInts w dv.v l) (hN : N ≤ 65536) (hL : ∀ p ∈ ps, asOk l p = true → (colP l p).length = N) (hF : ∀ xs, -9223372036854775808 ≤ (F xs).1 ∧ (F xs).1 ≤ 9223372036854775807)
    (WC : ∀ (wx : World) (p1 p2 B : Nat) (xs : List Int), w.grownBy wx none → BoxN wx p1 n → BoxT wx p2 u → xs.length = ps.length → IsInts wx (.slice (some ⟨B, 0, none⟩) ps.length ps.length) xs → Calls Tryz.prog 30 #[.slice (some ⟨B, 0, none⟩) ps.length ps.length, .pointer (some ⟨p1, 0, none⟩), .pointer (some ⟨p2, 0, none⟩)] wx fun e w' => e = .returned (.tuple #[.int .i64 (F xs).1, .int .i64 (F xs).2]) ∧ ∃ q, w' = wx.drewN q) :
    Calls Tryz.prog 14 #[nval n, .slice u.a u.n u.c, .agg #[.string nam0, .int .i64 vty, .slice dv.a dv.n dv.c]] w (EvQ w (madeR F ps l N)) := by
  obtain ⟨i0, hi, hz0, hz1, hz2⟩ := info_parts infoColE
  obtain ⟨xa, xc, e1, p1, p2, p3⟩ := hv.vals.form
  rw [List.length_map] at e1 p1 p3
  obtain ⟨ua, un, uc⟩ := u
  simp only [Sl.v, Value.slice.injEq] at e1
  obtain ⟨rfl, rfl, rfl⟩ := e1
  have HV := hide hv
  have HD := hide hd
  have HLN := hide hL
  have HF := hide hF
  have HWC := hide WC
  clear hv hd hL hF WC
  obtain ⟨w0, hw0⟩ : ∃ w0, w0 = (w.alloc (.cells #[.string n.op, .string n.name, .slice n.iv.a n.iv.n n.iv.c, .string n.out, .slice n.av.a n.av.n n.av.c] 25)).alloc (.cells #[.string nam0, .int .i64 vty, .slice dv.a dv.n dv.c] 53) := ⟨_, rfl⟩
  have g0 : Hid (w.grownBy w0 none) := by show w.grownBy w0 none; rw [hw0]; exact grown_trans (grown_new _ _) (grown_new _ _)
  have hbx := two_boxes w (.cells #[.string n.op, .string n.name, .slice n.iv.a n.iv.n n.iv.c, .string n.out, .slice n.av.a n.av.n n.av.c] 25) (.cells #[.string nam0, .int .i64 vty, .slice dv.a dv.n dv.c] 53)
  rw [← hw0] at hbx
  have BX : Hid (∀ wx, w0.grownBy wx none → wx.heap[w.heap.size + 1]? = some (.cells #[.string nam0, .int .i64 vty, .slice dv.a dv.n dv.c] 53 (0, 0))) := fun wx hg => box_kept hbx.2 hg
  have WO := hide (workof2_any n hop ⟨ua, ps.length, uc⟩ (.string nam0) (.int .i64 vty) (.slice dv.a dv.n dv.c) w0)
  clear hbx
  obtain ⟨dva, dvn, dvc⟩ := dv
  obtain ⟨op, nam, ⟨ia, il, ic⟩, out, ⟨ao, al, cap⟩⟩ := n
  unfold nval at WO ⊢
  simp only at WO BX hw0 ⊢
  go_enter Tryz.func14, Tryz.ntmps14
  go_wp2_with fail
  rw [← hw0]
  clear hw0
  refine WO.out.mono ?_
  rintro e w1 ⟨rfl, hg1, hb1, hb2⟩
  have G1 := hide hg1
  have BN : Hid (∀ wx, w1.grownBy wx none → BoxN wx w0.heap.size ⟨op, nam, ⟨ia, il, ic⟩, out, ⟨ao, al, cap⟩⟩ ∧ BoxT wx (w0.heap.size + 1) ⟨ua, ps.length, uc⟩) := fun wx hg => ⟨box_kept hb1 hg, box_kept hb2 hg⟩
  clear hg1 hb1 hb2
  have hbo : ∀ wx, (binOp .eql 58 (.func (.func 30) #[] #[.pointer (some ⟨w0.heap.size, 0, none⟩), .pointer (some ⟨w0.heap.size + 1, 0, none⟩)]) .nilFunc).run Tryz.prog wx = .ok (.bool false) wx := fun wx => by rfl
  obtain ⟨q1, hq1⟩ : ∃ q, q = w0.heap.size := ⟨_, rfl⟩
  obtain ⟨q2, hq2⟩ : ∃ q, q = w0.heap.size + 1 := ⟨_, rfl⟩
  rw [← hq2, ← hq1] at BN hbo ⊢
  clear hq1 hq2
  go_wp2_with fail
  go_loopw [9, 22] (fun v i wr => w1.grownBy wr none ∧ ∃ (k : Nat) (va : Option Addr) (vc : Nat) (cols : List (Sl × List Int)), k ≤ ps.length ∧ i = .int .i64 k ∧ v = .slice va k vc ∧ cols.length = k ∧ cols.map (·.2) = (ps.take k).map (colP l) ∧ (ps.take k).all (asOk l) = true ∧ OwnsL 30 1 scellS wr w1.heap.size (.slice va k vc) (cols.map (·.1)) ∧ ∀ c ∈ cols, OwnsE wr w1.heap.size c.1.v c.2) (fun _ i _ => ps.length - (intOf i).toNat)
  case atStart => exact ⟨grown_refl _, 0, none, 0, [], Nat.zero_le _, rfl, rfl, rfl, rfl, rfl, OwnsL.nil .., fun c hc => by simp at hc⟩
  case round =>
    obtain ⟨hg, k, va, vc, cols, hk, rfl, rfl, hcl, hcm, hall, hown, hin⟩ := hrel
    have HG := hide hg
    have HO := hide hown
    have HAL := hide hall
    have HCL := hide hcl
    have HCM := hide hcm
    have HIN := hide hin
    clear hown hall hcl hcm hin
    have gw := hide (grown_trans g0.out (grown_trans G1.out hg))
    by_cases hlt : k < ps.length
    · obtain ⟨b, off, rfl⟩ := HV.out.vals.addr (k := k) (by rw [List.length_map]; exact hlt)
      obtain ⟨a0, a1, a2⟩ := (HV.out.more gw.out).at k hlt
      have HH := hide (HV.out.has ps[k] (List.getElem_mem hlt))
      have HT : Hid ((ps.take (k + 1)).all (asOk l) = ((ps.take k).all (asOk l) && asOk l ps[k])) := by
        show _ = _
        rw [List.take_add_one, List.all_append, List.getElem?_eq_getElem hlt]
        simp
      have HM : Hid ((ps.take (k + 1)).map (colP l) = (ps.take k).map (colP l) ++ [colP l ps[k]]) := by
        show _ = _
        rw [List.take_add_one, List.map_append, List.getElem?_eq_getElem hlt]
        rfl
      have HBAD : Hid (asOk l ps[k] = false → madeR F ps l N = .error (asE ps[k].2.1 ps[k].2.2 l)) := fun h => by
        obtain ⟨h1, h2⟩ := firstA_at hlt HAL.out h
        unfold madeR
        rw [if_neg (by simp [h2]), h1]
      obtain ⟨p, hp⟩ : ∃ p, p = ps[k] := ⟨_, rfl⟩
      rw [← hp] at a0 a1 a2 HH HT HM HBAD
      obtain ⟨⟨ty, ⟨da, dn, dc⟩, ⟨ta, tn, tc⟩⟩, ⟨ds, ts⟩⟩ := p
      simp only at a0 a1 a2 HH HBAD
      obtain ⟨w2, hw2⟩ : ∃ w2, w2 = wr.alloc (.cells #[.int .i64 ty, .slice da dn dc, .slice ta tn tc] 32) := ⟨_, rfl⟩
      have g2 : Hid (wr.grownBy w2 none) := by show wr.grownBy w2 none; rw [hw2]; exact grown_new _ _
      have B2 := BX.out w2 (grown_trans (grown_trans G1.out hg) g2.out)
      have v2 : w2.cell? ⟨w.heap.size + 1, 2, none⟩ = some (.slice dva dvn dvc) := (cell_of_row _ _ 2 _ _ (0, 0) B2).trans rfl
      rw [hw2] at v2
      have AS := hide (as_any ⟨ty, ⟨da, dn, dc⟩, ⟨ta, tn, tc⟩⟩ ds ts l ⟨dva, dvn, dvc⟩ w2 ((HH.out.1.more gw.out).more g2.out) ((HH.out.2.more gw.out).more g2.out) ((HD.out.more gw.out).more g2.out))
      unfold tval at AS
      simp only at AS
      clear B2 hp hg
      go_wp2_with fail
      rw [← hw2]
      clear hw2 a0 a1 a2 v2
      refine AS.out.mono ?_
      rintro e w3 ⟨⟨sa, sn, sc⟩, rfl, ho3, hg3⟩
      have G3 := hide (grown_trans (grown_trans HG.out g2.out) hg3)
      have I3 := hide (OwnsE.ints (w := w3) (base := w2.heap.size) ho3)
      have hsz : w1.heap.size ≤ w3.heap.size := G3.out.size
      by_cases hok : asE ds ts l = 0
      · have bo : (asE ds ts l != 0) = false := by simp [hok]
        have HOK := hide hok
        have KL : Hid ((cols.map (·.1)).length = k) := by show _ = _; rw [List.length_map]; exact HCL.out
        have OW : Hid (∀ o, (w3.alloc o).ownsRow w1.heap.size 30 1 (.slice va k vc) k ((cols.map (·.1)).flatMap scellS)) := fun o => owns_row_atE ((HO.out.more (grown_trans g2.out hg3)).more (grown_new _ _)) KL.out
        have GI := hide (grown_trans g2.out hg3)
        have HS : Hid (∀ c ∈ cols ++ [((⟨sa, sn, sc⟩ : Sl), asL ds ts l)], OwnsE (w3.alloc (.cells #[.slice sa sn sc] 30)) w1.heap.size c.1.v c.2) := fun c hc => by
          rcases List.mem_append.1 hc with hc | hc
          · exact (HIN.out c hc).more (grown_trans GI.out (grown_new _ _)) (by cases c.1.v.ownBlock <;> simp)
          · obtain rfl := List.mem_singleton.1 hc
            exact OwnsE.more (w := w3) ⟨ownsRow_base ho3.1 (by have := HG.out.size; have := g2.out.size; omega), ho3.2⟩ (grown_new _ _) (by cases (Sl.v ⟨sa, sn, sc⟩).ownBlock <;> simp)
        clear hok ho3 hg3 AS
        go_wp2_with (at_builtin; refine wpList_append_lies _ rfl (.tmp 36) (.tmp 38) 60 rfl w1.heap.size 30 i0 (.slice none 0 0) 1 24 Tryz.underlying60 hi hz0 hz1 hz2 rfl (by decide) (.slice va k vc) k ((cols.map (·.1)).flatMap scellS) rfl (by exact OW.out _) ⟨w3.heap.size, 0, none⟩ 1 1 (scellS ⟨sa, sn, sc⟩) rfl rfl (by exact World.news_of_block (by have h := heap_alloc_new w3 (.cells #[.slice sa sn sc] 30); simpa using h)) (scellS_one _) (by omega) (by simp only [maxLen]; omega) (by omega) (by simp; omega) (w3.heap.size + 1) (by simp) ?_; intro gg cap8 w8 hown8 hgrow hat hlt8)
        have ST : Hid (w1.grownBy w8 none ∧ OwnsL 30 1 scellS w8 w1.heap.size (.slice (some ⟨gg, 0, none⟩) (k + 1) cap8) ((cols ++ [((⟨sa, sn, sc⟩ : Sl), asL ds ts l)]).map (fun c => c.1)) ∧ (ps.take (k + 1)).all (asOk l) = true ∧ (cols ++ [((⟨sa, sn, sc⟩ : Sl), asL ds ts l)]).map (fun c => c.2) = (ps.take (k + 1)).map (colP l) ∧ ∀ c ∈ cols ++ [((⟨sa, sn, sc⟩ : Sl), asL ds ts l)], OwnsE w8 w1.heap.size c.1.v c.2) := ⟨grown_trans_row (grown_trans G3.out (grown_new _ _)) hgrow (fun r e => (World.ownsRow.lt HO.out r e).1), by rw [List.map_append]; exact owns_at_rowE KL.out hown8, by rw [HT.out, HAL.out]; simp [asOk, HOK.out], by rw [HM.out, List.map_append, HCM.out]; rfl, fun c hc => by
          have h9 := HS.out c hc
          exact ⟨h9.1.kept hgrow (apart_te h9.1 (OW.out _) (by decide)), h9.2⟩⟩
        clear hown8 hgrow hat hlt8
        go_wp2_with fail
        go_roundw
        case rel => exact ⟨ST.out.1, k + 1, _, _, _, by omega, by go_num, rfl, by rw [List.length_append, HCL.out]; rfl, ST.out.2.2.2.1, ST.out.2.2.1, ST.out.2.1, ST.out.2.2.2.2⟩
        case measure => simp [intOf]; omega
      · have bo : (asE ds ts l != 0) = true := by simpa using hok
        have E : Hid (madeR F ps l N = .error (asE ds ts l)) := HBAD.out (by simpa [asOk] using hok)
        have GF := hide (grown_trans (grown_trans g0.out G1.out) G3.out)
        clear hok ho3 hg3 AS
        go_wp2
        go_ret2
        exact ev_err E.out GF.out
    · obtain rfl : k = ps.length := by omega
      have HOF := HO.out
      have EQ : Hid (madeR F ps l N = evE F cols 0 N) := by
        show _ = _
        have h1 := HAL.out
        have h2 := HCM.out
        rw [List.take_of_length_le (Nat.le_refl _)] at h1 h2
        unfold madeR
        rw [if_pos h1, evE_evL, h2]
      have CI : ∀ c ∈ cols, IsInts wr c.1.v c.2 ∧ c.2.length = N := fun c hc => ⟨(HIN.out c hc).ints, by
        have h1 := HAL.out
        have h2 := HCM.out
        rw [List.take_of_length_le (Nat.le_refl _)] at h1 h2
        have h3 : c.2 ∈ cols.map (·.2) := List.mem_map.2 ⟨c, hc, rfl⟩
        rw [h2] at h3
        obtain ⟨p, hp, e⟩ := List.mem_map.1 h3
        rw [← e]
        exact HLN.out p hp (List.all_eq_true.1 h1 p hp)⟩
      have EV := hide (every_two ⟨va, ps.length, vc⟩ cols N ps.length F q1 q2 wr (HOF.isL (bytes := 24) scellS_len (by rw [List.length_map, HCL.out]; omega)) CI HCL.out hp0 hp1 hN HF.out (fun wx B xs hgx hxl hxi => HWC.out wx q1 q2 B xs (grown_trans gw.out hgx) (BN.out wx (grown_trans hg hgx)).1 (BN.out wx (grown_trans hg hgx)).2 hxl hxi))
      simp only at EV
      clear HOF CI hg
      go_wp2_with fail
      refine EV.out.mono ?_
      rintro e w5 ⟨hg5, hq⟩
      have G5 := hide (grown_trans gw.out hg5)
      have Z5 : Hid (w.heap.size ≤ wr.heap.size) := gw.out.size
      obtain ⟨r, hr⟩ : ∃ r, r = evE F cols 0 N := ⟨_, rfl⟩
      rw [← hr] at hq EQ
      clear hr hg5 EV
      cases r with
      | error c =>
        obtain rfl := hq
        go_wp2
        go_ret2
        exact ev_err EQ.out G5.out
      | ok zs =>
        obtain ⟨⟨sa, sn, sc⟩, rfl, ho⟩ := hq
        have HO5 : Hid (OwnsE w5 w.heap.size (Sl.v ⟨sa, sn, sc⟩) zs) := ⟨ownsRow_base ho.1 Z5.out, ho.2⟩
        clear ho
        go_wp2
        go_ret2
        exact ev_ok EQ.out G5.out ⟨⟨sa, sn, sc⟩, rfl, HO5.out⟩
end Go.Proofs.YteigfipgmghgmaaGreatDoor
