/- Tensors in memory, and begin.Node, by the walk. -/
import Derived.Test.YteigfipgmghgmaaGreatDoorIOut
import Derived.Test.YteigfipgmghgmaaGreatDoorNPb
import Derived.Deep.AppendLies
namespace Go.Proofs.YteigfipgmghgmaaGreatDoor
open Go.RowKit

structure Ten where
  ty : Int
  dv : Sl
  tv : Sl

abbrev Tq := List Int × List Int

def tcells (t : Ten) : List Value := [.int .i64 t.ty, .slice t.dv.a t.dv.n t.dv.c, .slice t.tv.a t.tv.n t.tv.c]

theorem tcells_len (t : Ten) : (tcells t).length = 3 := rfl

abbrev IsTens (w : World) (v : Value) (ts : List Ten) : Prop := IsL 56 3 tcells w v ts

def tval (t : Ten) : Value := .agg #[.int .i64 t.ty, .slice t.dv.a t.dv.n t.dv.c, .slice t.tv.a t.tv.n t.tv.c]

/-- Tensors that come in. -/
structure TensIn (w : World) (v : Value) (ps : List (Ten × Tq)) : Prop where
  vals : IsTens w v (ps.map (·.1))
  has : ∀ p ∈ ps, IsInts w p.1.dv.v p.2.1 ∧ IsInts w p.1.tv.v p.2.2

theorem TensIn.more {w w' : World} {v : Value} {ps : List (Ten × Tq)} (h : TensIn w v ps) (hg : w.grownBy w' none) : TensIn w' v ps := ⟨h.vals.more hg, fun p hp => ⟨(h.has p hp).1.more hg, (h.has p hp).2.more hg⟩⟩

theorem TensIn.at {w : World} {b off n c : Nat} {ps : List (Ten × Tq)} (h : TensIn w (.slice (some ⟨b, off, none⟩) n c) ps) (k : Nat) (hk : k < ps.length) : w.cell? ⟨b, off + k * 3, none⟩ = some (.int .i64 ps[k].1.ty) ∧ w.cell? ⟨b, off + k * 3 + 1, none⟩ = some (.slice ps[k].1.dv.a ps[k].1.dv.n ps[k].1.dv.c) ∧ w.cell? ⟨b, off + k * 3 + 2, none⟩ = some (.slice ps[k].1.tv.a ps[k].1.tv.n ps[k].1.tv.c) := by
  have hk' : k < (ps.map (·.1)).length := by rw [List.length_map]; exact hk
  have h0 := h.vals.at k hk' 0 (by omega)
  have h1 := h.vals.at k hk' 1 (by omega)
  have h2 := h.vals.at k hk' 2 (by omega)
  rw [List.getElem_map] at h0 h1 h2
  exact ⟨h0, h1, h2⟩

/-- May a tensor be? -/
def okT (p : Ten × Tq) : Bool := pbE p.1.ty p.2.1 p.2.2 == 0

def nodeP (ps : List (Ten × Tq)) (r : R (Int × List Int)) : R (Int × List Int) := if ps.all okT = true then r else .error 1

theorem nodeP_bad {ps : List (Ten × Tq)} {r : R (Int × List Int)} {k : Nat} (hk : k < ps.length) (h : okT ps[k] = false) : nodeP ps r = .error 1 := by
  unfold nodeP
  rw [if_neg]
  intro e
  rw [List.all_eq_true] at e
  rw [e ps[k] (List.getElem_mem hk)] at h
  cases h

theorem nodeP_good {ps : List (Ten × Tq)} {r : R (Int × List Int)} (h : (ps.take ps.length).all okT = true) : nodeP ps r = r := by
  unfold nodeP
  rw [List.take_of_length_le (Nat.le_refl _)] at h
  rw [if_pos h]

theorem infoValE : (Tryz.prog.info? 53).map (fun i => (i.zero, i.size, i.bytes)) = some (some (.agg #[.string ⟨#[]⟩, .int .i64 0, .slice none 0 0]), 3, 48) := by kernel_rfl

theorem vcell_oneE (v : Val) : ∀ u ∈ vcells v, u.oneCell' = true := by
  intro u hu
  simp only [vcells, List.mem_cons, List.not_mem_nil, or_false] at hu
  rcases hu with rfl | rfl | rfl <;> rfl

theorem att_cast {out : ByteArray} {w w' : World} {X Y : R (Int × List Int)} {e : Ending} (h : X = Y) (hq : AttQ out w Y e w') : AttQ out w X e w' := by rw [h]; exact hq

def valOfT (p : Ten × Tq) : Val := ⟨⟨#[]⟩, p.1.ty, p.1.dv⟩

theorem owns_row_atE {α : Type} {te : TypeId} {size n : Nat} {f : α → List Value} {w : World} {base : Nat} {v : Value} {xs : List α} (h : OwnsL te size f w base v xs) (hn : xs.length = n) : w.ownsRow base te size v n (xs.flatMap f) := by
  subst hn
  exact h

theorem owns_at_rowE {α : Type} {te : TypeId} {size n : Nat} {f : α → List Value} {w : World} {base : Nat} {v : Value} {xs : List α} {y : α} (hn : xs.length = n) (h : w.ownsRow base te size v (n + 1) (xs.flatMap f ++ f y)) : OwnsL te size f w base v (xs ++ [y]) := by
  subst hn
  unfold OwnsL
  rw [List.length_append, List.flatMap_append]
  simpa using h

set_option maxRecDepth 100000 in
set_option maxHeartbeats 4000000 in
theorem bnode_any (n : Nod) (u : Sl) (ps : List (Ten × Tq)) (R0 : R (Int × List Int)) (w : World) (hv : TensIn w u.v ps) (hl : ps.length ≤ 1000000)
    (OC : ∀ (wx : World) (s : Sl) (vs : List (Val × List Int)), w.grownBy wx none → ValsIn wx s.v vs → vs.map (·.1.ty) = ps.map (·.1.ty) → vs.map (·.2) = ps.map (·.2.1) → Calls Tryz.prog 27 #[nval n, .slice s.a s.n s.c] wx (AttQ n.out wx R0)) :
    Calls Tryz.prog 20 #[nval n, .slice u.a u.n u.c] w (AttQ n.out w (nodeP ps R0)) := by
  obtain ⟨i0, hi, hz0, hz1, hz2⟩ := info_parts infoValE
  obtain ⟨xa, xc, e1, p1, p2, p3⟩ := hv.vals.form
  rw [List.length_map] at e1 p1 p3
  obtain ⟨ua, un, uc⟩ := u
  simp only [Sl.v, Value.slice.injEq] at e1
  obtain ⟨rfl, rfl, rfl⟩ := e1
  have HV := hide hv
  have HOC := hide OC
  clear hv OC
  obtain ⟨w0, hw0⟩ : ∃ w0, w0 = (w.alloc (.cells #[.string n.op, .string n.name, .slice n.iv.a n.iv.n n.iv.c, .string n.out, .slice n.av.a n.av.n n.av.c] 25)).alloc (.cells #[.string ⟨#[]⟩, .int .i64 0, .slice none 0 0] 53) := ⟨_, rfl⟩
  have g0 : Hid (w.grownBy w0 none) := by show w.grownBy w0 none; rw [hw0]; exact grown_trans (grown_new _ _) (grown_new _ _)
  have hbx := two_boxes w (.cells #[.string n.op, .string n.name, .slice n.iv.a n.iv.n n.iv.c, .string n.out, .slice n.av.a n.av.n n.av.c] 25) (.cells #[.string ⟨#[]⟩, .int .i64 0, .slice none 0 0] 53)
  rw [← hw0] at hbx
  have BN : Hid (∀ wx, w0.grownBy wx none → wx.heap[w.heap.size]? = some (.cells #[.string n.op, .string n.name, .slice n.iv.a n.iv.n n.iv.c, .string n.out, .slice n.av.a n.av.n n.av.c] 25 (0, 0))) := fun wx hg => box_kept hbx.1 hg
  have BX : Hid (∀ wx, w0.grownBy wx none → wx.heap[w.heap.size + 1]? = some (.cells #[.string ⟨#[]⟩, .int .i64 0, .slice none 0 0] 53 (0, 0))) := fun wx hg => box_kept hbx.2 hg
  have Z0 : Hid (w.heap.size + 1 < w0.heap.size) := (Array.getElem?_eq_some_iff.1 hbx.2).1
  clear hbx
  obtain ⟨op, nam, ⟨ia, il, ic⟩, out, ⟨ao, al, cap⟩⟩ := n
  unfold nval at HOC ⊢
  simp only at HOC BN hw0 ⊢
  go_enter Tryz.func20, Tryz.ntmps20
  go_wp2_with fail
  rw [← hw0]
  clear hw0
  go_loopw [6, 11] (fun l i wr => w0.grownBy wr none ∧ ∃ (k : Nat) (va : Option Addr) (vc : Nat), k ≤ ps.length ∧ i = .int .i64 k ∧ l = .slice va k vc ∧ (ps.take k).all okT = true ∧ OwnsL 53 3 vcells wr w0.heap.size (.slice va k vc) ((ps.take k).map valOfT)) (fun _ i _ => ps.length - (intOf i).toNat)
  case atStart => exact ⟨grown_refl _, 0, none, 0, Nat.zero_le _, rfl, rfl, rfl, OwnsL.nil ..⟩
  case round =>
    obtain ⟨hg, k, va, vc, hk, rfl, rfl, hall, hown⟩ := hrel
    have HG := hide hg
    have HO := hide hown
    have HAL := hide hall
    clear hown hall
    by_cases hlt : k < ps.length
    · obtain ⟨b, off, rfl⟩ := HV.out.vals.addr (k := k) (by rw [List.length_map]; exact hlt)
      obtain ⟨a0, a1, a2⟩ := (HV.out.more (grown_trans g0.out hg)).at k hlt
      have HH := hide (HV.out.has ps[k] (List.getElem_mem hlt))
      have HT : Hid ((ps.take (k + 1)).all okT = ((ps.take k).all okT && okT ps[k])) := by
        show _ = _
        rw [List.take_add_one, List.all_append, List.getElem?_eq_getElem hlt]
        simp
      have HM : Hid ((ps.take (k + 1)).map valOfT = (ps.take k).map valOfT ++ [valOfT ps[k]]) := by
        show _ = _
        rw [List.take_add_one, List.map_append, List.getElem?_eq_getElem hlt]
        rfl
      have HBAD : Hid (okT ps[k] = false → nodeP ps R0 = .error 1) := fun h => nodeP_bad hlt h
      obtain ⟨p, hp⟩ : ∃ p, p = ps[k] := ⟨_, rfl⟩
      rw [← hp] at a0 a1 a2 HH HT HM HBAD
      obtain ⟨⟨ty, ⟨da, dn, dc⟩, ⟨ta, tn, tc⟩⟩, ⟨ds, ts⟩⟩ := p
      simp only at a0 a1 a2 HH
      obtain ⟨w1, hw1⟩ : ∃ w1, w1 = wr.alloc (.cells #[.int .i64 ty, .slice da dn dc, .slice ta tn tc] 32) := ⟨_, rfl⟩
      have B1 := heap_alloc_new wr (.cells #[.int .i64 ty, .slice da dn dc, .slice ta tn tc] 32)
      have c0 := (cell_of_row _ _ 0 _ _ (0, 0) B1).trans rfl
      have c1 := (cell_of_row _ _ 1 _ _ (0, 0) B1).trans rfl
      have c2 := (cell_of_row _ _ 2 _ _ (0, 0) B1).trans rfl
      rw [← hw1] at B1
      have BT := hide B1
      have g1 : Hid (wr.grownBy w1 none) := by show wr.grownBy w1 none; rw [hw1]; exact grown_new _ _
      have PC := hide (pbcheck_any ty _ _ ds ts w1 ((HH.out.1.more (grown_trans g0.out hg)).more g1.out) ((HH.out.2.more (grown_trans g0.out hg)).more g1.out))
      simp only [Sl.v] at PC
      clear B1 hp hg
      go_wp2_with fail
      rw [← hw1]
      clear hw1 a0 a1 a2 c0 c1 c2
      refine PC.out.mono ?_
      rintro e w2 ⟨rfl, hg2⟩
      have G2 := hide (grown_trans (grown_trans HG.out g1.out) hg2)
      by_cases hok : pbE ty ds ts = 0
      · have bo : (pbE ty ds ts != 0) = false := by simp [hok]
        have HOK := hide hok
        have B2 := box_kept BT.out hg2
        have c0 := (cell_of_row _ _ 0 _ _ (0, 0) B2).trans rfl
        have c1 := (cell_of_row _ _ 1 _ _ (0, 0) B2).trans rfl
        have KL : Hid (((ps.take k).map valOfT).length = k) := by show _ = _; rw [List.length_map, List.length_take]; omega
        have OW : Hid (∀ o, (w2.alloc o).ownsRow w0.heap.size 53 3 (.slice va k vc) k (((ps.take k).map valOfT).flatMap vcells)) := fun o => owns_row_atE ((HO.out.more (grown_trans g1.out hg2)).more (grown_new _ _)) KL.out
        have hsz : w0.heap.size ≤ w2.heap.size := G2.out.size
        clear hok B2 hg2 PC
        go_wp2_with (at_builtin; refine wpList_append_lies _ rfl (.tmp 19) (.tmp 25) 66 rfl w0.heap.size 53 i0 (.agg #[.string ⟨#[]⟩, .int .i64 0, .slice none 0 0]) 3 48 Tryz.underlying66 hi hz0 hz1 hz2 rfl (by decide) (.slice va k vc) k (((ps.take k).map valOfT).flatMap vcells) rfl (by exact OW.out _) ⟨w2.heap.size, 0, none⟩ 1 1 (vcells ⟨⟨#[]⟩, ty, ⟨da, dn, dc⟩⟩) rfl rfl (by exact World.news_of_block (by have h := heap_alloc_new w2 (.cells #[.string ⟨#[]⟩, .int .i64 ty, .slice da dn dc] 53); simpa using h)) (vcell_oneE _) (by omega) (by simp only [maxLen]; omega) (by omega) (by simp; omega) (w2.heap.size + 1) (by simp) ?_; intro gg cap8 w8 hown8 hgrow hat hlt8)
        have ST : Hid (w0.grownBy w8 none ∧ OwnsL 53 3 vcells w8 w0.heap.size (.slice (some ⟨gg, 0, none⟩) (k + 1) cap8) ((ps.take (k + 1)).map valOfT) ∧ (ps.take (k + 1)).all okT = true) := ⟨grown_trans_row (grown_trans G2.out (grown_new _ _)) hgrow (fun r e => (World.ownsRow.lt HO.out r e).1), by rw [HM.out]; exact owns_at_rowE KL.out hown8, by rw [HT.out, HAL.out]; simp [okT, HOK.out]⟩
        clear hown8 hgrow hat hlt8 c0 c1
        go_wp2_with fail
        go_roundw
        case rel => exact ⟨ST.out.1, k + 1, _, _, by omega, by go_num, rfl, ST.out.2.2, ST.out.2.1⟩
        case measure => simp [intOf]; omega
      · have bo : (pbE ty ds ts != 0) = true := by simpa using hok
        have E : Hid (nodeP ps R0 = .error 1) := HBAD.out (by simpa [okT] using hok)
        have B1 := BX.out w2 G2.out
        obtain ⟨f0, f1, f2⟩ := ten_frozen B1
        have c0 := (cell_of_row _ _ 0 _ _ (0, 0) B1).trans rfl
        have c1 := (cell_of_row _ _ 1 _ _ (0, 0) B1).trans rfl
        have c2 := (cell_of_row _ _ 2 _ _ (0, 0) B1).trans rfl
        obtain ⟨hX, gX⟩ := store3t (.string ⟨#[]⟩) (.int .i64 0) (.slice none 0 0) B1
        have HX := hide hX
        have GX := hide (grown_drop (grown_trans g0.out G2.out) gX (by omega))
        clear hX gX B1 hok hg2
        go_wp2
        refine bodyPost_ret (ret_valt rfl _ _ (w.heap.size + 1) rfl HX.out) rfl ?_
        exact att_cast E.out ⟨GX.out, rfl⟩
    · obtain rfl : k = ps.length := by omega
      have E := hide (nodeP_good (r := R0) HAL.out)
      have HOF := HO.out
      rw [List.take_of_length_le (Nat.le_refl _)] at HOF
      have VI : ValsIn wr (Sl.v ⟨va, ps.length, vc⟩) (ps.map (fun p => (valOfT p, p.2.1))) := ⟨by rw [List.map_map]; exact HOF.isL (bytes := 48) vcells_len (by rw [List.length_map]; omega), fun q hq => by
        obtain ⟨p, hp, rfl⟩ := List.mem_map.1 hq
        exact ((HV.out.has p hp).1).more (grown_trans g0.out hg)⟩
      have O1 := hide (HOC.out wr ⟨va, ps.length, vc⟩ _ (grown_trans g0.out hg) VI (by rw [List.map_map]; rfl) (by rw [List.map_map]; rfl))
      obtain ⟨n0, n1, n2, n3, n4⟩ := nod_cells (n := ⟨op, nam, ⟨ia, il, ic⟩, out, ⟨ao, al, cap⟩⟩) (BN.out wr hg)
      clear HOF VI hg
      simp only at O1
      go_wp2_with fail
      refine O1.out.mono ?_
      rintro e w1 ⟨hg1, hq⟩
      have B1 := BX.out w1 (grown_trans HG.out hg1)
      obtain ⟨f0, f1, f2⟩ := ten_frozen B1
      have c0 := (cell_of_row _ _ 0 _ _ (0, 0) B1).trans rfl
      have c1 := (cell_of_row _ _ 1 _ _ (0, 0) B1).trans rfl
      have c2 := (cell_of_row _ _ 2 _ _ (0, 0) B1).trans rfl
      have G1 := hide (grown_trans (grown_trans g0.out HG.out) hg1)
      have HG1 := hide hg1
      have FB := hide (fun (a0 a1 a2 : Value) => store3t a0 a1 a2 B1)
      clear hg1 B1 n0 n1 n2 n3 n4
      cases R0 with
      | error c =>
        obtain rfl := hq
        obtain ⟨hX, gX⟩ := FB.out (.string ⟨#[]⟩) (.int .i64 0) (.slice none 0 0)
        have HX := hide hX
        have GX := hide (grown_drop G1.out gX (by omega))
        clear hX gX
        go_wp2
        refine bodyPost_ret (ret_valt rfl _ _ (w.heap.size + 1) rfl HX.out) rfl ?_
        exact att_cast E.out ⟨GX.out, rfl⟩
      | ok rr =>
        obtain ⟨⟨s1, s2, s3⟩, rfl, ho⟩ := hq
        obtain ⟨hX, gX⟩ := FB.out (.string out) (.int .i64 rr.1) (.slice s1 s2 s3)
        have hsz := HG.out.size
        have hz := Z0.out
        have HO2 := hide ((ho.base_le (b' := w.heap.size) (by have := g0.out.size; omega)).more gX (by
          rcases ho.1.2 with ⟨e, -⟩ | ⟨gg, cap', cur, e, hgg, -⟩
          · exact .inl (by rw [e]; rfl)
          · exact .inr (by rw [e]; simp [Value.ownBlock]; omega)))
        have HX := hide hX
        have GX := hide (grown_drop G1.out gX (by omega))
        clear hX gX ho hsz hz
        simp only
        go_wp2
        refine bodyPost_ret (ret_valt rfl _ _ (w.heap.size + 1) rfl HX.out) rfl ?_
        exact att_cast E.out ⟨GX.out, ⟨s1, s2, s3⟩, rfl, HO2.out⟩
end Go.Proofs.YteigfipgmghgmaaGreatDoor
