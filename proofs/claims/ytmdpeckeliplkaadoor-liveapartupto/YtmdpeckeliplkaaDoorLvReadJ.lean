/- Whose values a node reads, by the walk. -/
import Derived.Test.YtmdpeckeliplkaaDoorLvMJ
import Derived.Test.YtmdpeckeliplkaaDoorLvIdxJ
namespace Go.Proofs.YtmdpeckeliplkaaDoor
open Go.RowKit

theorem nds_cells {w : World} {B : Nat} {a b c d : Value} {t : TypeId} (hb : w.heap[B]? = some (.cells #[a, b, c, d] t (0, 0))) : w.cell? ⟨B, 0, none⟩ = some a ∧ w.cell? ⟨B, 1, none⟩ = some b ∧ w.cell? ⟨B, 2, none⟩ = some c ∧ w.cell? ⟨B, 3, none⟩ = some d :=
  ⟨(cell_of_row _ _ 0 _ _ (0, 0) hb).trans rfl, (cell_of_row _ _ 1 _ _ (0, 0) hb).trans rfl, (cell_of_row _ _ 2 _ _ (0, 0) hb).trans rfl, (cell_of_row _ _ 3 _ _ (0, 0) hb).trans rfl⟩

theorem app_lies {wI w8 : World} {S Ba Bb n : Nat} {R : List (List Int)} {rs : List Sl} (h : LL wI S Ba Bb n R rs) {m Bm km : Nat} (hlR : R.length = n + n) (hm : (m < n ∧ Bm = Ba ∧ km = m) ∨ (∃ j, j < n ∧ m = n + j ∧ Bm = Bb ∧ km = j)) {i gg cap : Nat} (o : Obj)
    (hg : ((wI.alloc o).drew).grownBy w8 (rs.getD m nilS).v.ownBlock) (ho : w8.ownsRow S 3 1 (.slice (some ⟨gg, 0, none⟩) ((R.getD m []).length + 1) cap) ((R.getD m []).length + 1) ((R.getD m []).map (Value.int .i64) ++ [.int .i64 (i : Int)]))
    (hat : (rs.getD m nilS).v.ownBlock = some gg ∨ gg = wI.heap.size + 1) (hi : i ≤ 1048576) (hl : (R.getD m []).length ≤ 1099511627776) (hbs : S ≤ wI.heap.size) :
    LL (w8.setCell ⟨Bm, km, none⟩ (.slice (some ⟨gg, 0, none⟩) ((R.getD m []).length + 1) cap)) S Ba Bb n (R.set m (R.getD m [] ++ [(i : Int)])) (rs.set m ⟨some ⟨gg, 0, none⟩, (R.getD m []).length + 1, cap⟩) ∧ Frm S wI (w8.setCell ⟨Bm, km, none⟩ (.slice (some ⟨gg, 0, none⟩) ((R.getD m []).length + 1) cap)) := by
  have g1 : wI.grownBy (wI.alloc o).drew none := grown_drew (grown_new _ _)
  have r := (h.new g1).app hlR hm (v' := ⟨some ⟨gg, 0, none⟩, (R.getD m []).length + 1, cap⟩) (i := i) hg ho (by
    rcases hat with h1 | h1
    · left; rw [h1]; rfl
    · right; rw [h1]; show some _ = some _; simp) hi hl (Nat.le_trans hbs g1.size)
  exact ⟨r.1, (Frm.new hbs g1).trans r.2⟩

set_option maxRecDepth 100000 in
set_option maxHeartbeats 6400000 in
theorem read_any (Bl Ba Bb Bo n i b S cnt : Nat) (l : List ByteArray) (R : List (List Int)) (rs : List Sl) (ia : Option Addr) (ic : Nat) (ins : List ByteArray) (w : World) (hS : S ≤ w.heap.size) (hl : LL w S Ba Bb n R rs) (hnb : NB n cnt R) (hcnt : cnt + ins.length ≤ 2147483648) (hi : i < n) (hn : n ≤ 1024) (hll : l.length = i)
    (hc : ∀ wx, Frm S w wx → wx.cell? ⟨Bl, i * 5 + 2, none⟩ = some (.slice ia ins.length ic)) (hst : ∀ wx, Frm S w wx → IsStrs wx (.slice ia ins.length ic) ins) (hsz : ∀ x ∈ ins, x.size ≤ 1048576) (hnum : Nums w b l) :
    Calls Tryd.prog 40 #[.agg #[.slice (some ⟨Bl, 0, none⟩) n n, .slice (some ⟨Ba, 0, none⟩) n n, .slice (some ⟨Bb, 0, none⟩) n n, .slice (some ⟨Bo, 0, none⟩) n n], .int .i64 (i : Int), .map (some b)] w fun e w' => e = .returned (.tuple #[]) ∧ ∃ rs', LL w' S Ba Bb n (rdRow l n i R ins) rs' ∧ Frm S w w' := by
  obtain ⟨i0, hi0, hz0, hz1, hz2⟩ := info_parts infoInt
  have HC := hide hc
  have HST := hide hst
  have HSZ := hide hsz
  obtain ⟨w0, hw0⟩ : ∃ w0, w0 = w.alloc (.cells #[.slice (some ⟨Bl, 0, none⟩) n n, .slice (some ⟨Ba, 0, none⟩) n n, .slice (some ⟨Bb, 0, none⟩) n n, .slice (some ⟨Bo, 0, none⟩) n n] 63) := ⟨_, rfl⟩
  have g0 : w.grownBy w0 none := by rw [hw0]; exact grown_new _ _
  have F0 : Hid (Frm S w w0) := Frm.new hS g0
  have hS0 : S ≤ w0.heap.size := Nat.le_trans hS g0.size
  have L0 : Hid (LL w0 S Ba Bb n R rs) := hl.new g0
  have N0 : Hid (Nums w0 b l) := hnum.more g0
  have NB0 := hide hnb
  have b0 := heap_alloc_new w (.cells #[.slice (some ⟨Bl, 0, none⟩) n n, .slice (some ⟨Ba, 0, none⟩) n n, .slice (some ⟨Bb, 0, none⟩) n n, .slice (some ⟨Bo, 0, none⟩) n n] 63)
  rw [← hw0] at b0
  have BX : Hid (∀ wx, Frm S w0 wx → wx.heap[w.heap.size]? = some (.cells #[.slice (some ⟨Bl, 0, none⟩) n n, .slice (some ⟨Ba, 0, none⟩) n n, .slice (some ⟨Bb, 0, none⟩) n n, .slice (some ⟨Bo, 0, none⟩) n n] 63 (0, 0))) := fun wx hx => hx.cells b0 (by decide) (by decide)
  obtain ⟨x0, x1, x2, x3⟩ := nds_cells (BX.out w0 (Frm.refl _ _))
  have xc := HC.out w0 F0.out
  rw [hw0] at x0 x1 x2 x3 xc
  have hi1 : (0 : Int) ≤ (i : Int) := Int.natCast_nonneg _
  have hi2 : (i : Int) < (n : Int) := by omega
  have hil : ins.length ≤ 2147483648 := by omega
  obtain ⟨D, nD, d1, -, d3, d4⟩ := id hnum
  clear hc hst hsz hl hnum hnb b0 d1
  go_enter Tryd.func40, Tryd.ntmps40
  go_wp2_with fail
  rw [← hw0]
  clear hw0 x0 x1 x2 x3 xc
  obtain ⟨P0, hP0⟩ : ∃ P0, P0 = w.heap.size := ⟨_, rfl⟩
  rw [← hP0] at BX ⊢
  clear hP0
  go_loopg [17] ins.length (fun gh j wr => ∃ (t : Nat) (rx : List Sl), gh = ins.length - t ∧ t ≤ ins.length ∧ j = .int .i64 t ∧ NB n (cnt + t) (rdRow l n i R (ins.take t)) ∧ LL wr S Ba Bb n (rdRow l n i R (ins.take t)) rx ∧ Frm S w0 wr)
  case atStart => exact ⟨0, rs, rfl, Nat.zero_le _, rfl, NB0.out, L0.out, Frm.refl _ _⟩
  case round =>
    obtain ⟨t, rx, hgh, ht, rfl, hnb, hlx, hfx⟩ := hrel
    have HNB := hide hnb
    have HLX := hide hlx
    have HFX := hide hfx
    clear hnb hlx hfx
    by_cases htl : t < ins.length
    · have HV := HST.out wr (F0.out.trans HFX.out)
      obtain ⟨vb, vo, rfl⟩ := HV.addr htl
      have s0 := str_at HV t htl
      have HX := hide (HSZ.out _ (List.getElem_mem htl))
      have HR := hide (rdRow_step l n i R ins htl)
      have HN2 := hide (fun (x : ByteArray) => HNB.out.step (x := x) hi hll)
      obtain ⟨X, hX⟩ : ∃ X, X = ins[t] := ⟨_, rfl⟩
      rw [← hX] at s0 HX HR
      clear HV hX
      obtain ⟨p, hp⟩ : ∃ p, p = rdRow l n i R (ins.take t) := ⟨_, rfl⟩
      rw [← hp] at HNB HLX HR HN2
      clear hp
      obtain ⟨D, nD, d1, -, d3, d4⟩ := HFX.out.nums N0.out
      have D1 := hide d1
      have KX : Hid (keyOf Tryd.prog 9 (.string X) = some (.string X.data.toList)) := key_str (by have := HX.out; omega)
      have DH := hide (d3 X)
      have DA := hide (fun (h : inL X l = true) => d4 _ _ (pos_at h))
      have PL := hide (fun (h : inL X l = true) => pos_lt h)
      clear d1 d3 d4
      cases hin : inL X l with
      | false =>
        have hhas : Maps.has D (.string X.data.toList) = false := DH.out.trans hin
        have E : Hid (rdRow l n i R (ins.take (t + 1)) = p) := by show _ = _; rw [HR.out]; unfold rdS; rw [hin]; rfl
        clear hin
        go_wp2_with (at_lookup; refine wpList_lookup_own_ok_int _ rfl (.tmp 22) (.tmp 23) 83 rfl 9 3 .i64 strKeyed Tryd.underlying83 Tryd.underlying3 (zeroInt _) b nD D rfl D1.out (.string X) (.string X.data.toList) rfl KX.out ?_; intro cc hat hwc; rw [hhas])
        go_roundg (ins.length - (t + 1))
        case measure => omega
        case rel => exact ⟨t + 1, rx, rfl, by omega, by go_num, by rw [E.out]; exact HNB.out.le (by omega), by rw [E.out]; exact HLX.out, HFX.out⟩
      | true =>
        have hhas : Maps.has D (.string X.data.toList) = true := DH.out.trans hin
        have hpl := PL.out hin
        rw [hll] at hpl
        have DA := hide (DA.out hin)
        have HIN := hide hin
        obtain ⟨P, hP⟩ : ∃ P, P = pos l X := ⟨_, rfl⟩
        have HRS : Hid (rdS l n i p X = if (true && !((p.getD i []).contains (P : Int))) = true then (p.set i (p.getD i [] ++ [(P : Int)])).set (n + P) (p.getD (n + P) [] ++ [(i : Int)]) else p) := by show _ = _; unfold rdS; rw [hin, ← hP]
        rw [← hP] at hpl DA
        have hcn : (p.getD i []).length ≤ 4294967296 := by have := HNB.out.cnt i; omega
        obtain ⟨y0, y1, y2, y3⟩ := nds_cells (BX.out wr HFX.out)
        obtain ⟨cA, fA⟩ := HLX.out.rdA hi
        have HOi := hide (HLX.out.each i (by omega))
        obtain ⟨⟨sa, sn, sc⟩, hsl⟩ : ∃ s, s = rx.getD i nilS := ⟨_, rfl⟩
        have HSL := hide hsl
        rw [← hsl] at cA HOi
        obtain ⟨sa', sc', hsv⟩ := own_form HOi.out.1
        obtain ⟨rfl, rfl, rfl⟩ : sa = sa' ∧ sn = (p.getD i []).length ∧ sc = sc' := by simpa [Sl.v] using hsv
        obtain ⟨RM, hRM⟩ : ∃ x, x = p.getD i [] := ⟨_, rfl⟩
        have HRM := hide hRM
        rw [← hRM] at HOi HRS hcn cA HSL
        simp only [Sl.v] at HOi cA
        have CI := hide (contains_int _ RM (P : Int) wr HOi.out.ints)
        clear hin hsl hsv hRM hP
        go_wp2_with (at_lookup; refine wpList_lookup_own_ok_int _ rfl (.tmp 22) (.tmp 23) 83 rfl 9 3 .i64 strKeyed Tryd.underlying83 Tryd.underlying3 (zeroInt _) b nD D rfl D1.out (.string X) (.string X.data.toList) rfl KX.out ?_; intro cc hat hwc; obtain rfl : cc = (P : Int) := (by have h := hat.symm.trans DA.out; simpa using h); clear hat hwc; rw [hhas])
        refine CI.out.mono ?_
        rintro e w9 ⟨rfl, hw9⟩
        have hw9 := hw9.symm
        subst hw9
        cases hct : RM.contains (P : Int) with
        | true =>
          have E : Hid (rdRow l n i R (ins.take (t + 1)) = p) := by show _ = _; rw [HR.out, HRS.out, hct]; rfl
          clear hct
          go_wp2_with fail
          go_roundg (ins.length - (t + 1))
          case measure => omega
          case rel => exact ⟨t + 1, rx, rfl, by omega, by go_num, by rw [E.out]; exact HNB.out.le (by omega), by rw [E.out]; exact HLX.out, HFX.out⟩
        | false =>
          have E : Hid (rdRow l n i R (ins.take (t + 1)) = (p.set i (RM ++ [(P : Int)])).set (n + P) (p.getD (n + P) [] ++ [(i : Int)])) := by show _ = _; rw [HR.out, HRS.out, hct]; rfl
          clear hct
          go_wp2_with fail
          clear y0 y1 y2 y3 cA fA s0
          go_cut [] from 38 to 49 (fun wx => ∃ rx' : List Sl, LL wx S Ba Bb n (p.set i (RM ++ [(P : Int)])) rx' ∧ Frm S w0 wx)
          case first =>
            have KS : Hid (∀ wx, wr.grownBy wx (Value.slice sa RM.length sc).ownBlock → wx.cell? ⟨P0, 1, none⟩ = some (.slice (some ⟨Ba, 0, none⟩) n n) ∧ wx.cell? ⟨Ba, i, none⟩ = some (.slice sa RM.length sc) ∧ wx.frozen? ⟨Ba, i, none⟩ = false) := fun wx hx => by
              have e := HSL.out
              have o := HLX.out.each i (by omega)
              rw [← e] at o
              have hF := Frm.own (Nat.le_trans hS0 HFX.out.size) o.1 hx
              obtain ⟨-, k1, -, -⟩ := nds_cells (BX.out wx (HFX.out.trans hF))
              have hne : (Value.slice sa RM.length sc).ownBlock ≠ some Ba := fun h => (HLX.out.neA (k := i) (by omega) (by rw [← e]; exact h)).1 rfl
              have k2 : wx.heap[Ba]? = wr.heap[Ba]? := hx.block Ba (World.ownsRow.lt HLX.out.rowA Ba rfl).2 (fun h => hne h.symm)
              obtain ⟨cA, fA⟩ := HLX.out.rdA hi
              rw [← e] at cA
              exact ⟨k1, (World.cell?_of_block k2).trans cA, (World.frozen?_of_block k2).trans fA⟩
            have hbs : S ≤ wr.heap.size := Nat.le_trans hS0 HFX.out.size
            obtain ⟨ky1, ky2, ky3⟩ := KS.out wr (World.grownBy.refl _ _)
            obtain ⟨ka1, ka2, ka3⟩ := KS.out (wr.alloc (.cells #[.int .i64 (P : Int)] 3)) (grown_allocr (World.grownBy.refl _ _) _)
            have OW : Hid (∀ o, ((wr.alloc o).drew).ownsRow S 3 1 (.slice sa RM.length sc) RM.length (RM.map (Value.int .i64))) := fun o => (HOi.out.1.alloc _).drew
            have GA : Hid (∀ o row, wr.grownBy (wr.alloc o).drew row) := fun o row => grown_drewr (grown_allocr (World.grownBy.refl _ _) _)
            have AP : Hid (∀ (w8 : World) (gg cap : Nat), ((wr.alloc (.cells #[.int .i64 (P : Int)] 3)).drew).grownBy w8 (Value.slice sa RM.length sc).ownBlock → w8.ownsRow S 3 1 (.slice (some ⟨gg, 0, none⟩) (RM.length + 1) cap) (RM.length + 1) (RM.map (Value.int .i64) ++ [.int .i64 (P : Int)]) → ((Value.slice sa RM.length sc).ownBlock = some gg ∨ gg = wr.heap.size + 1) →
                LL (w8.setCell ⟨Ba, i, none⟩ (.slice (some ⟨gg, 0, none⟩) (RM.length + 1) cap)) S Ba Bb n (p.set i (RM ++ [(P : Int)])) (rx.set i ⟨some ⟨gg, 0, none⟩, RM.length + 1, cap⟩) ∧ Frm S w0 (w8.setCell ⟨Ba, i, none⟩ (.slice (some ⟨gg, 0, none⟩) (RM.length + 1) cap))) := by
              intro w8 gg cap hg ho hat
              have e := HSL.out
              have r := app_lies HLX.out (m := i) (Bm := Ba) (km := i) HNB.out.len (Or.inl ⟨hi, rfl, rfl⟩) (i := P) (gg := gg) (cap := cap) (.cells #[.int .i64 (P : Int)] 3) (w8 := w8) (by rw [← e]; exact hg) (by rw [← HRM.out]; exact ho) (by rw [← e]; exact hat) (by omega) (by rw [← HRM.out]; omega) hbs
              rw [← HRM.out] at r
              exact ⟨r.1, HFX.out.trans r.2⟩
            go_region_law (refine step_append_lies _ (by rfl) (.tmp 45) (.tmp 47) 40 (by rfl) S 3 i0 (.int .i64 0) 1 8 Tryd.underlying40 hi0 hz0 hz1 hz2 (by rfl) (by decide) (.slice sa RM.length sc) RM.length (RM.map (Value.int .i64)) (by rfl) (by exact OW.out _) ⟨wr.heap.size, 0, none⟩ 1 1 [.int .i64 (P : Int)] (by rfl) (by rfl) (by exact World.news_of_block (heap_alloc_new wr _)) (by simp [Value.oneCell']) (by omega) (by simp only [maxLen]; omega) (by omega) (by simp; omega) (wr.heap.size + 1) (by simp) ?_; intro gg cap w8 hown8 hgrow hat hlt8; obtain ⟨kb1, kb2, kb3⟩ := KS.out w8 (World.grownBy.trans (GA.out _ _) hgrow))
            all_goals
              have FIN := hide (AP.out w8 gg cap hgrow hown8 hat)
              clear hgrow hown8 hat hlt8 kb1 kb2 kb3 ka1 ka2 ka3 ky1 ky2 ky3
              go_wp2_with fail
              go_meet
              exact ⟨_, FIN.out⟩
          case rest =>
            obtain ⟨rx', hlx', hfx'⟩ := hcut
            have HL2 := hide hlx'
            have HF2 := hide hfx'
            clear hlx' hfx'
            have hgd : (p.set i (RM ++ [(P : Int)])).getD (n + P) [] = p.getD (n + P) [] := by rw [getD_set _ _ _ _ _ (by rw [HNB.out.len]; omega), if_neg (by omega)]
            have hlp : (p.set i (RM ++ [(P : Int)])).length = n + n := by rw [List.length_set]; exact HNB.out.len
            have HLP := hide hlp
            have HGD := hide hgd
            have HOk := hide (HL2.out.each (n + P) (by omega))
            have hcn2 : (p.getD (n + P) []).length ≤ 4294967296 := by have := HNB.out.cnt (n + P); omega
            rw [hgd] at HOk
            obtain ⟨p2, hp2⟩ : ∃ p2, p2 = p.set i (RM ++ [(P : Int)]) := ⟨_, rfl⟩
            rw [← hp2] at HL2 E HLP HGD
            clear hp2 hgd hlp hcn HOi HSL HRS CI
            obtain ⟨⟨ta, tn, tc⟩, htl2⟩ : ∃ s, s = rx'.getD (n + P) nilS := ⟨_, rfl⟩
            have HSL := hide htl2
            rw [← htl2] at HOk
            obtain ⟨ta', tc', hsv⟩ := own_form HOk.out.1
            obtain ⟨rfl, rfl, rfl⟩ : ta = ta' ∧ tn = (p.getD (n + P) []).length ∧ tc = tc' := by simpa [Sl.v] using hsv
            obtain ⟨RN, hRN⟩ : ∃ x, x = p.getD (n + P) [] := ⟨_, rfl⟩
            rw [← hRN] at HOk hcn2 HSL HGD E
            simp only [Sl.v] at HOk
            have hp0 : (0 : Int) ≤ (P : Int) := Int.natCast_nonneg _
            have hp1 : (P : Int) < (n : Int) := by omega
            clear htl2 hsv hRN
            go_wp2_with fail
            have KS : Hid (∀ wx, wc.grownBy wx (Value.slice ta RN.length tc).ownBlock → wx.cell? ⟨P0, 2, none⟩ = some (.slice (some ⟨Bb, 0, none⟩) n n) ∧ wx.cell? ⟨Bb, P, none⟩ = some (.slice ta RN.length tc) ∧ wx.frozen? ⟨Bb, P, none⟩ = false) := fun wx hx => by
              have e := HSL.out
              have o := HL2.out.each (n + P) (by omega)
              rw [← e] at o
              have hF := Frm.own (Nat.le_trans hS0 HF2.out.size) o.1 hx
              obtain ⟨-, -, k1, -⟩ := nds_cells (BX.out wx (HF2.out.trans hF))
              have hne : (Value.slice ta RN.length tc).ownBlock ≠ some Bb := fun h => (HL2.out.neA (k := n + P) (by omega) (by rw [← e]; exact h)).2 rfl
              have k2 : wx.heap[Bb]? = wc.heap[Bb]? := hx.block Bb (World.ownsRow.lt HL2.out.rowB Bb rfl).2 (fun h => hne h.symm)
              obtain ⟨cA, fA⟩ := HL2.out.rdB (k := P) (by omega)
              rw [← e] at cA
              exact ⟨k1, (World.cell?_of_block k2).trans cA, (World.frozen?_of_block k2).trans fA⟩
            have hbs : S ≤ wc.heap.size := Nat.le_trans hS0 HF2.out.size
            obtain ⟨ky1, ky2, ky3⟩ := KS.out wc (World.grownBy.refl _ _)
            obtain ⟨ka1, ka2, ka3⟩ := KS.out (wc.alloc (.cells #[.int .i64 (i : Int)] 3)) (grown_allocr (World.grownBy.refl _ _) _)
            have OW : Hid (∀ o, ((wc.alloc o).drew).ownsRow S 3 1 (.slice ta RN.length tc) RN.length (RN.map (Value.int .i64))) := fun o => (HOk.out.1.alloc _).drew
            have GA : Hid (∀ o row, wc.grownBy (wc.alloc o).drew row) := fun o row => grown_drewr (grown_allocr (World.grownBy.refl _ _) _)
            have AP : Hid (∀ (w8 : World) (gg cap : Nat), ((wc.alloc (.cells #[.int .i64 (i : Int)] 3)).drew).grownBy w8 (Value.slice ta RN.length tc).ownBlock → w8.ownsRow S 3 1 (.slice (some ⟨gg, 0, none⟩) (RN.length + 1) cap) (RN.length + 1) (RN.map (Value.int .i64) ++ [.int .i64 (i : Int)]) → ((Value.slice ta RN.length tc).ownBlock = some gg ∨ gg = wc.heap.size + 1) →
                LL (w8.setCell ⟨Bb, P, none⟩ (.slice (some ⟨gg, 0, none⟩) (RN.length + 1) cap)) S Ba Bb n (p2.set (n + P) (RN ++ [(i : Int)])) (rx'.set (n + P) ⟨some ⟨gg, 0, none⟩, RN.length + 1, cap⟩) ∧ Frm S w0 (w8.setCell ⟨Bb, P, none⟩ (.slice (some ⟨gg, 0, none⟩) (RN.length + 1) cap))) := by
              intro w8 gg cap hg ho hat
              have e := HSL.out
              have r := app_lies HL2.out (m := n + P) (Bm := Bb) (km := P) HLP.out (Or.inr ⟨P, by omega, rfl, rfl, rfl⟩) (i := i) (gg := gg) (cap := cap) (.cells #[.int .i64 (i : Int)] 3) (w8 := w8) (by rw [← e]; exact hg) (by rw [HGD.out]; exact ho) (by rw [← e]; exact hat) (by omega) (by rw [HGD.out]; omega) hbs
              rw [HGD.out] at r
              exact ⟨r.1, HF2.out.trans r.2⟩
            go_region_law (refine step_append_lies _ (by rfl) (.tmp 57) (.tmp 59) 40 (by rfl) S 3 i0 (.int .i64 0) 1 8 Tryd.underlying40 hi0 hz0 hz1 hz2 (by rfl) (by decide) (.slice ta RN.length tc) RN.length (RN.map (Value.int .i64)) (by rfl) (by exact OW.out _) ⟨wc.heap.size, 0, none⟩ 1 1 [.int .i64 (i : Int)] (by rfl) (by rfl) (by exact World.news_of_block (heap_alloc_new wc _)) (by simp [Value.oneCell']) (by omega) (by simp only [maxLen]; omega) (by omega) (by simp; omega) (wc.heap.size + 1) (by simp) ?_; intro gg cap w8 hown8 hgrow hat hlt8; obtain ⟨kb1, kb2, kb3⟩ := KS.out w8 (World.grownBy.trans (GA.out _ _) hgrow))
            all_goals
              have FIN := hide (AP.out w8 gg cap hgrow hown8 hat)
              clear hgrow hown8 hat hlt8 kb1 kb2 kb3 ka1 ka2 ka3 ky1 ky2 ky3
              have HN3 := hide (HN2.out X)
              rw [← HR.out, E.out] at HN3
              go_wp2_with fail
              go_roundg (ins.length - (t + 1))
              case measure => omega
              case rel => exact ⟨t + 1, _, rfl, by omega, by go_num, by rw [E.out]; exact HN3.out.le (by omega), by rw [E.out]; exact FIN.out.1, FIN.out.2⟩
    · obtain rfl : t = ins.length := by omega
      rw [List.take_of_length_le (Nat.le_refl _)] at HLX
      go_wp2
      go_end0
      exact ⟨rfl, rx, HLX.out, F0.out.trans HFX.out⟩
end Go.Proofs.YtmdpeckeliplkaaDoor
