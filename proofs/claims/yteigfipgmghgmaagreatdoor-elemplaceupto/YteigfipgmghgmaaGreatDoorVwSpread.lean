/- Spread, by the walk. -/
import Derived.Test.YteigfipgmghgmaaGreatDoorVwRow
import Derived.Test.YteigfipgmghgmaaGreatDoorVwEq
import Derived.Test.YteigfipgmghgmaaGreatDoorSBc
import Derived.Test.YteigfipgmghgmaaGreatDoorSRStr
namespace Go.Proofs.YteigfipgmghgmaaGreatDoor.Vw
open Go.RowKit

/-- The strides of a view that is spread to the dimensions l. -/
def spr (ds ss l : List Int) : List Int :=
  (List.range l.length).map fun j => if l.length - ds.length ≤ j ∧ ds.getD (j - (l.length - ds.length)) 0 = l.getD j 0 then ss.getD (j - (l.length - ds.length)) 0 else 0

theorem spr_length (ds ss l : List Int) : (spr ds ss l).length = l.length := by simp [spr]

theorem spr_at {ds ss l : List Int} {j : Nat} (hj : j < l.length) :
    (spr ds ss l).getD j 0 = if l.length - ds.length ≤ j ∧ ds.getD (j - (l.length - ds.length)) 0 = l.getD j 0 then ss.getD (j - (l.length - ds.length)) 0 else 0 := by
  rw [List.getD, List.getElem?_eq_getElem (by rw [spr_length]; exact hj)]
  simp [spr]

theorem foreFill_at {n k t : Nat} {l : List Int} (hl : l.length = n) (hk : k ≤ n) : (foreFill n k l).getD t 0 = if t < k then l.getD t 0 else 0 := by
  unfold foreFill
  simp only [List.getD, List.getElem?_append, List.length_take, List.getElem?_take, List.getElem?_replicate]
  by_cases h : t < k
  · simp [h, show t < min k l.length by omega]
  · simp only [h, show ¬ t < min k l.length by omega, if_false]
    split <;> rfl

theorem foreFill_length {n k : Nat} {l : List Int} (hl : l.length = n) (hk : k ≤ n) : (foreFill n k l).length = n := by
  simp [foreFill]; omega

theorem fill_zero {n k : Nat} {l : List Int} (hl : l.length = n) (hk : k ≤ n) (h : ∀ t, t < k → l.getD t 0 = 0) : List.replicate n 0 = foreFill n k l := by
  refine list_eq_of (by rw [foreFill_length hl hk]; simp) fun t ht => ?_
  have ht' : t < n := by simpa using ht
  rw [foreFill_at hl hk]
  split
  · rename_i h1; rw [h t h1]; simp [List.getD, ht']
  · simp [List.getD, ht']

theorem fill_same {n k : Nat} {l : List Int} (hl : l.length = n) (hk : k < n) (h : l.getD k 0 = 0) : foreFill n k l = foreFill n (k + 1) l := by
  refine list_eq_of (by rw [foreFill_length hl (by omega), foreFill_length hl (by omega)]) fun t ht => ?_
  rw [foreFill_at hl (by omega), foreFill_at hl (by omega)]
  by_cases h1 : t < k
  · simp [h1, show t < k + 1 by omega]
  · by_cases h2 : t = k
    · subst h2; rw [if_neg h1, if_pos (by omega), h]
    · rw [if_neg h1, if_neg (by omega)]

/-- What Spread answers: error, and the view. -/
def Spreaded (off : Int) (ds ss l : List Int) (E : Int) (off' : Int) (ds' ss' : List Int) : Prop :=
  (¬ MayV off ds ss ∧ E = 1 ∧ off' = 0 ∧ ds' = [] ∧ ss' = []) ∨ (MayV off ds ss ∧ bcE ds l ≠ 0 ∧ E = bcE ds l ∧ off' = 0 ∧ ds' = [] ∧ ss' = []) ∨
  (MayV off ds ss ∧ bcE ds l = 0 ∧ bcR ds l ≠ l ∧ E = 4 ∧ off' = 0 ∧ ds' = [] ∧ ss' = []) ∨
  (MayV off ds ss ∧ bcE ds l = 0 ∧ bcR ds l = l ∧ E = 0 ∧ off' = off ∧ ds' = l ∧ ss' = spr ds ss l)

theorem spr_wf {ds ss l : List Int} (h : ∀ s ∈ ss, 0 ≤ s ∧ s ≤ 65536) : ∀ z ∈ spr ds ss l, 0 ≤ z ∧ z ≤ 65536 := by
  intro z hz
  obtain ⟨j, _, rfl⟩ := List.mem_map.1 hz
  split
  · rw [List.getD]
    cases e : ss[j - (l.length - ds.length)]? with
    | none => simp
    | some x => exact h x (List.mem_of_getElem? e)
  · omega

theorem bc_room {ds l : List Int} (hE : bcE ds l = 0) (hR : bcR ds l = l) : ds.length ≤ l.length ∧ cntE l = 0 := by
  have h1 : l.length = rank ds l := by rw [← bcL_length ds l (rank ds l), ← show bcR ds l = bcL ds l (rank ds l) by simp [bcR, hE], hR]
  refine ⟨by simp only [rank] at h1; omega, ?_⟩
  unfold bcE at hE
  by_cases h2 : cntE l = 0
  · exact h2
  · rw [if_pos h2] at hE
    split at hE
    · contradiction
    · exact hE

set_option maxHeartbeats 6400000 in
theorem spread_any (v lv : Value) (off : Int) (ds ss l : List Int) (w : World) (h : IsView w v off ds ss) (hl : IsInts w lv l) :
    Calls Tryz.prog 23 #[v, lv] w fun e w' => ∃ u E off' ds' ss', e = .returned (.tuple #[u, .int .i64 E]) ∧ Spreaded off ds ss l E off' ds' ss' ∧ OwnView w' w.heap.size u off' ds' ss' ∧ w.grownBy w' none := by
  obtain ⟨i0, hi, hz0, hz1, hz2⟩ := info_parts infoInt
  have hv := h
  obtain ⟨dv, sv, rfl, hd, hs, ho1, ho2⟩ := h
  obtain ⟨w0, hw0⟩ : ∃ w0, w0 = (w.alloc (.cells #[.int .i64 off, dv, sv] 76)).alloc (.cells #[.int .i64 0, .slice none 0 0, .slice none 0 0] 76) := ⟨_, rfl⟩
  have g0 : w.grownBy w0 none := by rw [hw0]; exact grown_trans (grown_new _ _) (grown_new _ _)
  have hs0 : w0.heap.size = w.heap.size + 2 := by rw [hw0]; simp
  have hbx := two_boxes w (.cells #[.int .i64 off, dv, sv] 76) (.cells #[.int .i64 0, .slice none 0 0, .slice none 0 0] 76)
  rw [← hw0] at hbx
  have BX : Hid (∀ wx, w0.grownBy wx none → wx.heap[w.heap.size]? = some (.cells #[.int .i64 off, dv, sv] 76 (0, 0)) ∧ wx.heap[w.heap.size + 1]? = some (.cells #[.int .i64 0, .slice none 0 0, .slice none 0 0] 76 (0, 0)) ∧ w.heap.size + 2 ≤ wx.heap.size) :=
    fun wx hg => ⟨box_kept hbx.1 hg, box_kept hbx.2 hg, by have := hg.size; omega⟩
  have MB := hide (mayBe_any _ off ds ss w0 (hv.more g0))
  have HD := hide hd
  have HS := hide hs
  have HL := hide hl
  obtain ⟨x0, x1, x2, -, -, -⟩ := box_cells hbx.1
  have FAIL : Hid (∀ wx, w0.grownBy wx none → (((wx.setCell ⟨w.heap.size + 1, 0, none⟩ (.int .i64 0)).setCell ⟨w.heap.size + 1, 1, none⟩ (.slice none 0 0)).setCell ⟨w.heap.size + 1, 2, none⟩ (.slice none 0 0)).heap[w.heap.size + 1]? = some (.cells #[.int .i64 0, .slice none 0 0, .slice none 0 0] 76 (0, 0)) ∧ w.grownBy (((wx.setCell ⟨w.heap.size + 1, 0, none⟩ (.int .i64 0)).setCell ⟨w.heap.size + 1, 1, none⟩ (.slice none 0 0)).setCell ⟨w.heap.size + 1, 2, none⟩ (.slice none 0 0)) none) := fun wx hg => by
    obtain ⟨hX, gX, _⟩ := store3 (.int .i64 0) (.slice none 0 0) (.slice none 0 0) (grown_trans g0 hg) (show w.heap.size ≤ w.heap.size + 1 by omega) (BX.out wx hg).2.1
    exact ⟨hX, gX⟩
  clear hv hbx
  by_cases hM : mayB off ds ss = true
  · rw [hM] at MB
    have HMV := hide (mayB_iff.1 hM)
    clear hM
    obtain ⟨da, dc, rfl, hd1, hd2, hd3, -, -, -⟩ := hd
    obtain ⟨sa, sc, rfl, hs1, hs2, hs3, -, -, -⟩ := hs
    obtain ⟨la, lc, rfl, hl1, hl2, hl3, -, -, -⟩ := hl
    have hll : Hid (ds.length = ss.length) := HMV.out.len.symm
    go_enter Tryz.func23, Tryz.ntmps23
    go_wp2_with fail
    rw [← hw0]
    clear hw0
    refine MB.out.mono ?_
    rintro e w1 ⟨rfl, hg1⟩
    obtain ⟨y0, y1, y2, -, -, -⟩ := box_cells (BX.out w1 hg1).1
    have g01 := grown_trans g0 hg1
    have BC := hide (bc_any _ _ ds l w1 (HD.out.more g01) (HL.out.more g01))
    clear x0 x1 x2
    go_wp2_with fail
    refine BC.out.mono ?_
    rintro e w2 ⟨r, rfl, or, hg2⟩
    have g02 := grown_trans hg1 hg2
    obtain ⟨k0, k1, k2, f0, f1, f2⟩ := box_cells (BX.out w2 g02).2.1
    obtain ⟨ra, rc, rfl, hr1, hr2, hr3, -, -, -⟩ := or.ints
    have OR := hide or
    clear or y0 y1 y2
    by_cases hE : bcE ds l = 0
    · have hE' : (bcE ds l != 0) = false := by simp [hE]
      have HE := hide hE
      have EQ := hide (equal_any _ _ (bcR ds l) l w2 OR.out.ints (HL.out.more (grown_trans g0 g02)))
      clear hE
      go_wp2_with fail
      refine EQ.out.mono ?_
      rintro e w3 ⟨rfl, hg3⟩
      have g03 := grown_trans g02 hg3
      obtain ⟨k0, k1, k2, f0, f1, f2⟩ := box_cells (BX.out w3 g03).2.1
      by_cases hR : bcR ds l = l
      · have HR := hide hR
        rw [decide_eq_true hR]
        clear hR
        obtain ⟨y0, y1, y2, -, -, -⟩ := box_cells (BX.out w3 g03).1
        obtain ⟨hroom, hcl⟩ := bc_room HE.out HR.out
        have hl6 := (fine_of hcl).few
        have hb4 : i0.bytes * l.length ≤ 281474976710656 := by rw [hz2]; omega
        have hb5 : l.length ≤ maxLen := by simp only [maxLen]; omega
        clear hcl
        go_wp2_with (refine wpList_make_full _ rfl (.tmp 33) (.tmp 33) 29 rfl w3.heap.size 3 i0 (.int .i64 0) 1 Tryz.underlying29 hi hz0 hz1 .i64 .i64 _ _ l.length rfl rfl rfl rfl hb4 hb5 (Nat.le_refl _) ?_; intro w4 hown hgrow; obtain ⟨q0, q1, q2, -, -, -⟩ := box_cells (BX.out w4 (grown_trans g03 hgrow)).1)
        rw [made_zeros] at hown
        obtain ⟨an, han⟩ : ∃ an : Nat, an = l.length - ds.length := ⟨_, rfl⟩
        have hsub : (l.length : Int) - (ds.length : Int) = (an : Int) := by omega
        have hroom2 : an + ds.length ≤ l.length := by omega
        have HAN := hide han
        have HSL := hide (spr_length ds ss l)
        rw [hsub]
        have HST := hide (fill_zero (n := l.length) (k := an) (l := spr ds ss l) (spr_length ds ss l) (by omega) (fun t ht => by rw [spr_at (by omega), if_neg (fun h => by omega)]))
        clear hsub han
        go_loopw [44] (fun i wr => w3.grownBy wr none ∧ ∃ k : Nat, k ≤ ds.length ∧ i = .int .i64 k ∧
          wr.ownsRow w3.heap.size 3 1 (.slice (some ⟨w3.heap.size, 0, none⟩) l.length l.length) l.length ((foreFill l.length (an + k) (spr ds ss l)).map (Value.int .i64))) (fun i _ => ds.length - (intOf i).toNat)
        case atStart => exact ⟨hgrow, 0, Nat.zero_le _, rfl, by rw [Nat.add_zero, ← HST.out]; exact hown⟩
        case round =>
          clear hown hgrow q0 q1 q2 y0 y1 y2 k0 k1 k2 f0 f1 f2
          obtain ⟨hw, k, hk, rfl, hown⟩ := hrel
          rename_i wr
          have g0r := grown_trans g03 hw
          obtain ⟨y0, y1, y2, -, -, -⟩ := box_cells (BX.out wr g0r).1
          by_cases hkl : k < ds.length
          · have hkl2 : an + k < l.length := by omega
            have hkl3 : k < ss.length := by have := hll.out; omega
            obtain ⟨bd, od, rfl⟩ := addr_of HD.out (by omega)
            obtain ⟨bl, ol, rfl⟩ := addr_of HL.out (by omega)
            obtain ⟨bs, os, rfl⟩ := addr_of HS.out (by omega)
            have cd := item_at (HD.out.more (grown_trans g0 g0r)) hkl
            have cl := item_at (HL.out.more (grown_trans g0 g0r)) hkl2
            have cs := item_at (HS.out.more (grown_trans g0 g0r)) hkl3
            have hsp := spr_at (ds := ds) (ss := ss) (l := l) hkl2
            rw [← HAN.out, show an + k - an = k by omega] at hsp
            obtain ⟨D, hD⟩ : ∃ D, D = ds.getD k 0 := ⟨_, rfl⟩
            obtain ⟨L, hL⟩ : ∃ L, L = l.getD (an + k) 0 := ⟨_, rfl⟩
            obtain ⟨S, hS⟩ : ∃ S, S = ss.getD k 0 := ⟨_, rfl⟩
            rw [← hD] at cd hsp
            rw [← hL] at cl hsp
            rw [← hS] at cs hsp
            clear hD hL hS
            by_cases hDL : D = L
            · rw [if_pos ⟨by omega, hDL⟩] at hsp
              have hDL' : (D == L) = true := by simp [hDL]
              obtain ⟨⟨c, hc⟩, hf, hown2, hw2⟩ := fore_step (z := S) hkl2 HSL.out hsp.symm hw hown
              have HO := hide hown2
              have HW := hide hw2
              clear hown hown2 hw2 hw hsp hDL
              go_wp2
              go_roundw
              case rel => exact ⟨HW.out, k + 1, by omega, by go_num, HO.out⟩
              case measure => simp [intOf]; omega
            · rw [if_neg (fun h => hDL h.2)] at hsp
              have hDL' : (D == L) = false := by simp [hDL]
              rw [fill_same HSL.out hkl2 hsp] at hown
              have HO := hide hown
              have HW := hide hw
              clear hown hw hsp hDL
              go_wp2
              go_roundw
              case rel => exact ⟨HW.out, k + 1, by omega, by go_num, HO.out⟩
              case measure => simp [intOf]; omega
          · obtain ⟨k0, k1, k2, f0, f1, f2⟩ := box_cells (BX.out wr g0r).2.1
            have hsz1 : w.heap.size + 2 ≤ w1.heap.size := (BX.out w1 hg1).2.2
            have hsz3 : w.heap.size + 2 ≤ w3.heap.size := (BX.out w3 g03).2.2
            have OR2 : Owns w2 w1.heap.size (.slice ra (bcR ds l).length rc) l := by
              have := OR.out
              rw [HR.out] at this ⊢
              exact this
            have OS : Owns wr w3.heap.size (.slice (some ⟨w3.heap.size, 0, none⟩) l.length l.length) (spr ds ss l) := by
              refine ⟨?_, by rw [HSL.out]; omega, fun z hz => by have := spr_wf HMV.out.str z hz; omega⟩
              rw [show foreFill l.length (an + k) (spr ds ss l) = spr ds ss l by simp [foreFill, show l.length - (an + k) = 0 by have := HAN.out; omega, List.take_of_length_le (show (spr ds ss l).length ≤ an + k by rw [HSL.out]; have := HAN.out; omega)]] at hown
              rw [HSL.out]
              exact hown
            obtain ⟨HX, OV, GX⟩ := put_view (off := off) (base := w.heap.size + 2) (grown_trans g0 g0r) (show w.heap.size ≤ w.heap.size + 1 by omega) (BX.out wr g0r).2.1 ((OR2.new (grown_trans hg3 hw)).base_le hsz1) (OS.base_le hsz3) (by omega) ho1 ho2 (apart_of (fun k hk => (OR2.lt k hk).2) (fun k hk => (OS.lt k hk).1) hg3.size)
            have HXX := hide HX
            have HOV := hide OV
            have HGX := hide GX
            clear HX OV GX OS OR2 hown
            go_wp2
            refine bodyPost_ret (ret_view rfl _ _ (w.heap.size + 1) rfl HXX.out) rfl ?_
            exact ⟨_, 0, off, _, _, rfl, Or.inr (Or.inr (Or.inr ⟨HMV.out, HE.out, HR.out, rfl, rfl, rfl, rfl⟩)), HOV.out, HGX.out⟩
      · have HR := hide hR
        rw [decide_eq_false hR]
        clear hR
        go_wp2
        refine bodyPost_ret (ret_view rfl _ _ (w.heap.size + 1) rfl (FAIL.out w3 g03).1) rfl ?_
        exact ⟨_, 4, 0, [], [], rfl, Or.inr (Or.inr (Or.inl ⟨HMV.out, HE.out, HR.out, rfl, rfl, rfl, rfl⟩)), OwnView.nil _ _, (FAIL.out w3 g03).2⟩
    · have hE' : (bcE ds l != 0) = true := by simp [hE]
      have HE := hide hE
      clear hE
      go_wp2
      refine bodyPost_ret (ret_view rfl _ _ (w.heap.size + 1) rfl (FAIL.out w2 g02).1) rfl ?_
      exact ⟨_, _, 0, [], [], rfl, Or.inr (Or.inl ⟨HMV.out, HE.out, rfl, rfl, rfl, rfl⟩), OwnView.nil _ _, (FAIL.out w2 g02).2⟩
  · have hM' : mayB off ds ss = false := by simpa using hM
    have HNM : Hid (¬ MayV off ds ss) := fun h => hM (mayB_iff.2 h)
    rw [hM'] at MB
    clear hM hM'
    go_enter Tryz.func23, Tryz.ntmps23
    go_wp2_with fail
    rw [← hw0]
    clear hw0
    refine MB.out.mono ?_
    rintro e w1 ⟨rfl, hg1⟩
    obtain ⟨k0, k1, k2, f0, f1, f2⟩ := box_cells (BX.out w1 hg1).2.1
    go_wp2
    refine bodyPost_ret (ret_view rfl _ _ (w.heap.size + 1) rfl (FAIL.out w1 hg1).1) rfl ?_
    exact ⟨_, 1, 0, [], [], rfl, Or.inl ⟨HNM.out, rfl, rfl, rfl, rfl⟩, OwnView.nil _ _, (FAIL.out w1 hg1).2⟩
end Go.Proofs.YteigfipgmghgmaaGreatDoor.Vw
