/- Joined texts: LMBackW. -/
import Derived.Test.YtaoplfpigjkgpaaGreatDoorPartBP
import Derived.Test.YtaoplfpigjkgpaaGreatDoorPartBS
namespace Go.Proofs.YtaoplfpigjkgpaaGreatDoor

open Go.RowKit

set_option maxRecDepth 100000 in
set_option maxHeartbeats 16000000 in
theorem moveBack_walk (X : Ten) {x xs : List Int} (s : Sl) (P : List Int) (w : World) (hl : Laid w) (hx : IsInts w X.dv.v x) (hxs : IsInts w X.tv.v xs) (hp : IsInts w s.v P) : Calls Tryz.prog 4 #[tval X, .slice s.a s.n s.c] w fun e w' => e = .returned (.bool true) ∧ Below w.heap.size w w' := by
  obtain ⟨i0, hi0, hz0, hz1, hz2⟩ := info_parts info64E
  have HL := hide hl
  have HX := hide hx
  have HXS := hide hxs
  obtain ⟨_, _, ex, -⟩ := hx.sl
  obtain ⟨_, _, ep, ep1, ep2, ep3⟩ := hp.sl
  have HP := hide hp
  clear hl hx hxs hp
  obtain ⟨sa, sn, sc⟩ := s
  obtain ⟨tx, ⟨xa, xn, xc⟩, ⟨ua, un, uc⟩⟩ := X
  simp only [Sl.v, Value.slice.injEq] at ex ep
  obtain ⟨-, rfl, -⟩ := ex
  obtain ⟨-, rfl, -⟩ := ep
  unfold tval
  simp only [Sl.v] at HX HXS HP ⊢
  obtain ⟨w0, hw0⟩ : ∃ w0, w0 = w.alloc (.cells #[.int .i64 tx, .slice xa x.length xc, .slice ua un uc] 32) := ⟨_, rfl⟩
  obtain ⟨hbx, Z0⟩ := new_alloc (.cells #[.int .i64 tx, .slice xa x.length xc, .slice ua un uc] 32) (x := w) rfl
  rw [← hw0] at hbx Z0
  have g0 : w.grownBy w0 none := by rw [hw0]; exact grown_new _ _
  have BX : Hid (∀ wx, w0.grownBy wx none → wx.heap[w.heap.size]? = some (.cells #[.int .i64 tx, .slice xa x.length xc, .slice ua un uc] 32 (0, 0))) := fun wx hx => box_kept hbx hx
  have LV : Hid (∀ wx, w.grownBy wx none → Calls Tryz.prog 10 #[] wx fun e w' => e = .returned (.bool true) ∧ wx.grownBy w' none) := fun wx hx => live10_any wx (HL.out.more hx)
  obtain ⟨wS, hwS⟩ : ∃ wS, wS = w0.alloc (.cells #[.int .i64 tx, .slice xa x.length xc, .slice ua un uc] 32) := ⟨_, rfl⟩
  obtain ⟨bS, -⟩ := new_alloc (.cells #[.int .i64 tx, .slice xa x.length xc, .slice ua un uc] 32) Z0
  rw [← hwS] at bS
  have gS : w0.grownBy wS none := by rw [hwS]; exact grown_new _ _
  have GS := hide (grown_trans g0 gS)
  have GS0 := hide gS
  have SM := hide (small10_any ⟨some ⟨w.heap.size + 1, 0, none⟩, 1, 1⟩ _ wS (one_ten ⟨tx, ⟨xa, x.length, xc⟩, ⟨ua, un, uc⟩⟩ bS (HX.out.more GS.out) (HXS.out.more GS.out)))
  simp only at SM
  obtain ⟨x0, x1, x2⟩ := ten_cells hbx
  rw [hw0] at x0 x1 x2
  have G0 := hide g0
  clear hbx bS Z0 g0 gS
  go_enter Tryz.func4, Tryz.ntmps4
  go_wp2_with fail
  rw [← hw0, ← hwS]
  clear hw0 hwS x0 x1 x2
  refine SM.out.mono ?_
  rintro e w1 ⟨bb, rfl, hg1⟩
  have G1 := hide (grown_trans GS.out hg1)
  have G01 := hide (grown_trans GS0.out hg1)
  have L1 := hide (LV.out w1 G1.out)
  obtain ⟨x0, x1, x2⟩ := ten_cells (BX.out w1 G01.out)
  clear hg1 SM
  cases bb with
  | false =>
    go_wp2_with fail
    refine L1.out.mono ?_
    rintro e w2 ⟨rfl, hg2⟩
    go_wp2
    go_ret
    exact ⟨rfl, grown_below (grown_trans G1.out hg2)⟩
  | true =>
    obtain ⟨wa, hwa⟩ : ∃ wa, wa = ((w1.alloc (.cells #[.string ⟨#[120]⟩] 9)).alloc (.cells #[.string ⟨#[112, 101, 114, 109]⟩, .int .i64 7, .int .i64 0, .int .i64 0, .string ⟨#[]⟩, .int .i64 0, .slice none 0 0, .slice none 0 0, .slice sa P.length sc] 41)).alloc (.cells #[.string ⟨#[84, 114, 97, 110, 115, 112, 111, 115, 101]⟩, .string ⟨#[]⟩, .slice (some ⟨w1.heap.size, 0, none⟩) 1 1, .string ⟨#[121]⟩, .slice (some ⟨w1.heap.size + 1, 0, none⟩) 1 1] 25) := ⟨_, rfl⟩
    obtain ⟨c0, c1, c2⟩ := three_boxes w1 (.cells #[.string ⟨#[120]⟩] 9) (.cells #[.string ⟨#[112, 101, 114, 109]⟩, .int .i64 7, .int .i64 0, .int .i64 0, .string ⟨#[]⟩, .int .i64 0, .slice none 0 0, .slice none 0 0, .slice sa P.length sc] 41) (.cells #[.string ⟨#[84, 114, 97, 110, 115, 112, 111, 115, 101]⟩, .string ⟨#[]⟩, .slice (some ⟨w1.heap.size, 0, none⟩) 1 1, .string ⟨#[121]⟩, .slice (some ⟨w1.heap.size + 1, 0, none⟩) 1 1] 25)
    rw [← hwa] at c0 c1 c2
    have ga : w1.grownBy wa none := by rw [hwa]; exact grown_trans (grown_trans (grown_new _ _) (grown_new _ _)) (grown_new _ _)
    have za : wa.heap.size = w1.heap.size + 1 + 1 + 1 := by rw [hwa]; simp
    obtain ⟨wT, hwT⟩ : ∃ wT, wT = wa.alloc (.cells #[.int .i64 tx, .slice xa x.length xc, .slice ua un uc] 32) := ⟨_, rfl⟩
    have e0 := heap_alloc_new wa (.cells #[.int .i64 tx, .slice xa x.length xc, .slice ua un uc] 32)
    rw [← hwT, za] at e0
    have gt : wa.grownBy wT none := by rw [hwT]; exact grown_new _ _
    have GT := hide (grown_trans G1.out (grown_trans ga gt))
    have GT0 := hide (grown_trans G01.out (grown_trans ga gt))
    obtain ⟨n0, n1, n2, n3, n4⟩ := nod_cells (n := ⟨⟨#[84, 114, 97, 110, 115, 112, 111, 115, 101]⟩, ⟨#[]⟩, ⟨some ⟨w1.heap.size, 0, none⟩, 1, 1⟩, ⟨#[121]⟩, ⟨some ⟨w1.heap.size + 1, 0, none⟩, 1, 1⟩⟩) c2
    obtain ⟨y0, y1, y2⟩ := ten_cells (BX.out wa (grown_trans G01.out ga))
    rw [hwa] at n0 n1 n2 n3 n4 y0 y1 y2
    have AT := in_attrs (s := ⟨sa, P.length, sc⟩) (box_kept c1 gt)
    have E1 := hide (tr_do ⟨⟨#[84, 114, 97, 110, 115, 112, 111, 115, 101]⟩, ⟨#[]⟩, ⟨some ⟨w1.heap.size, 0, none⟩, 1, 1⟩, ⟨#[121]⟩, ⟨some ⟨w1.heap.size + 1, 0, none⟩, 1, 1⟩⟩ (inAt ⟨#[84, 114, 97, 110, 115, 112, 111, 115, 101]⟩ ⟨#[112, 101, 114, 109]⟩ ⟨sa, P.length, sc⟩ P) ⟨#[120]⟩ rfl ⟨some ⟨w1.heap.size + 1 + 1 + 1, 0, none⟩, 1, 1⟩ ⟨tx, ⟨xa, x.length, xc⟩, ⟨ua, un, uc⟩⟩ x xs wT (HL.out.more GT.out) (in_in (x_strs (box_kept c0 gt)) (HP.out.more GT.out) AT) (in_ok (HP.out.more GT.out) AT) (pm_check _ _) (pm_then _ _) (by show 1 ≤ 1048576; omega) (one_ten _ e0 (HX.out.more GT.out) (HXS.out.more GT.out)))
    unfold nval at E1
    simp only at E1
    have BT : Hid (∀ wx, wT.grownBy wx none → wx.heap[w1.heap.size]? = some (.cells #[.string ⟨#[120]⟩] 9 (0, 0)) ∧ wx.heap[w1.heap.size + 1 + 1]? = some (.cells #[.string ⟨#[84, 114, 97, 110, 115, 112, 111, 115, 101]⟩, .string ⟨#[]⟩, .slice (some ⟨w1.heap.size, 0, none⟩) 1 1, .string ⟨#[121]⟩, .slice (some ⟨w1.heap.size + 1, 0, none⟩) 1 1] 25 (0, 0))) := fun wx hx => ⟨box_kept (box_kept c0 gt) hx, box_kept (box_kept c2 gt) hx⟩
    have ZT : Hid (wT.heap.size = w1.heap.size + 1 + 1 + 1 + 1) := by show _ = _; rw [hwT]; simp [za]
    obtain ⟨r, hr⟩ : ∃ r, r = trG (inAt ⟨#[84, 114, 97, 110, 115, 112, 111, 115, 101]⟩ ⟨#[112, 101, 114, 109]⟩ ⟨sa, P.length, sc⟩ P) tx x xs := ⟨_, rfl⟩
    have HR := hide hr
    rw [← hr] at E1
    have MI := hide (mints_any ⟨#[112, 101, 114, 109]⟩ ⟨sa, P.length, sc⟩ (w1.alloc (.cells #[.string ⟨#[120]⟩] 9)))
    simp only at MI
    clear hr c0 c1 c2 e0 ga gt za AT
    go_wp2_with fail
    refine MI.out.mono ?_
    rintro e wy ⟨rfl, rfl⟩
    go_wp2_with fail
    rw [← hwa, ← hwT]
    clear hwa hwT n0 n1 n2 n3 n4 y0 y1 y2 MI x0 x1 x2
    refine E1.out.mono ?_
    rintro e w2 ⟨hg2, hq⟩
    clear E1
    cases r with
    | error c =>
      have hc0 : (c != 0) = true := by
        have hn : c ≠ 0 := nz_trG _ _ _ _ c HR.out.symm
        simpa using hn
      subst hq
      have GF := hide (grown_trans GT.out (grown_trans hg2 (grown_new w2 (.cells #[.int .i64 0, .slice none 0 0, .slice none 0 0] 32))))
      have L2 := hide (LV.out _ GF.out)
      clear hg2 L1
      go_wp2_with fail
      refine L2.out.mono ?_
      rintro e u4 ⟨rfl, hg4⟩
      go_wp2
      go_ret
      exact ⟨rfl, grown_below (grown_trans GF.out hg4)⟩
    | ok rr =>
      obtain ⟨ty, l, zs⟩ := rr
      obtain ⟨⟨ty', ⟨da, dn, dc⟩, ⟨ta, tn, tc⟩⟩, ht, rfl, od, ot⟩ := hq
      simp only at ht
      subst ht
      unfold tval
      simp only
      obtain ⟨-, c1, c2, hP, -, -, -⟩ := trG_inv HR.out.symm
      rw [pm_perm] at hP
      have P6 : P.length ≤ 6 := by rw [hP.len]; exact (fine_of c1).few
      have HPE := hide hP
      obtain ⟨p2, hp2⟩ : ∃ W, W = w2.alloc (.cells #[.int .i64 ty', .slice da dn dc, .slice ta tn tc] 32) := ⟨_, rfl⟩
      obtain ⟨bp2, zp2⟩ := new_alloc (.cells #[.int .i64 ty', .slice da dn dc, .slice ta tn tc] 32) (x := w2) rfl
      rw [← hp2] at bp2 zp2
      have gp2 : w2.grownBy p2 none := by rw [hp2]; exact grown_new _ _
      have GP := hide (grown_trans hg2 gp2)
      have OD := hide (od.1.kept gp2 (by cases (Value.slice da dn dc).ownBlock <;> simp))
      have OT := hide (ot.more gp2 (by cases (Value.slice ta tn tc).ownBlock <;> simp))
      have ODR := hide od.2
      have S2 := hide hg2.size
      have BP := hide bp2
      have ZP := hide zp2
      have hb4 : i0.bytes * P.length ≤ 281474976710656 := by rw [hz2]; omega
      have hb5 : P.length ≤ maxLen := by simp only [maxLen]; omega
      have hc0 : ((0 : Int) != 0) = false := rfl
      clear od ot hg2 gp2 bp2 zp2 L1 c1 c2 hP
      go_wp2_with (first | (refine wpList_make_full _ rfl (.tmp 32) (.tmp 32) 30 rfl (w2.heap.size + 1) 2 i0 (.int .i64 0) 1 Tryz.underlying30 hi0 hz0 hz1 .i64 .i64 _ _ P.length rfl rfl rfl rfl hb4 hb5 (by simp) ?_; intro w3 hown3 hg3) | fail)
      have zz : (w2.alloc (.cells #[.int .i64 ty', .slice da dn dc, .slice ta tn tc] 32)).heap.size = w2.heap.size + 1 := by simp
      rw [zz] at hown3
      try rw [zz]
      rw [← hp2] at hg3
      clear hp2 zz
      rw [made_zeros] at hown3
      have O3 := hide (zeros_ownsE (by omega) hown3)
      have G3 := hide hg3
      clear hown3 hg3 hb4 hb5
      go_loopw [9] (fun i wr => p2.grownBy wr none ∧ ∃ (k : Nat) (L : List Int), k ≤ P.length ∧ i = .int .i64 k ∧ OwnsE wr (w2.heap.size + 1) (.slice (some ⟨w2.heap.size + 1, 0, none⟩) P.length P.length) L ∧ L.length = P.length ∧ ∀ j : Nat, j < k → L.getD (P.getD j 0).toNat 0 = j) (fun i _ => P.length - (intOf i).toNat)
      case atStart => exact ⟨G3.out, 0, _, Nat.zero_le _, rfl, O3.out, by simp, fun j hj => by omega⟩
      case round =>
        obtain ⟨hg, k, L, hk, rfl, ho, hLl, hL⟩ := hrel
        have HG := hide hg
        have HO := hide ho
        have HLL := hide hLl
        have HLT := hide hL
        clear ho hLl hL
        by_cases hlt : k < P.length
        · obtain ⟨pb, po, rfl, hcp⟩ := HP.out.get (k := k) hlt
          have q0 := cell_still (hcp k hlt) (grown_trans (grown_trans GT.out GP.out) hg)
          obtain ⟨q, hq1, hq2⟩ := HPE.out.at k (by rw [← HPE.out.len]; exact hlt)
          rw [hq2] at q0
          have hqn : q < P.length := by rw [HPE.out.len]; exact hq1
          obtain ⟨a1, a2, a3, a4⟩ := HO.out.put HLL.out hqn (k : Int) ⟨by omega, by omega⟩
          have NG := hide (grown_drop hg a4 (by rw [ZP.out]; exact Nat.le_refl _))
          have NO := hide a3
          have NL : Hid (∀ j : Nat, j < k + 1 → (L.set q (k : Int)).getD (P.getD j 0).toNat 0 = j) := fun j hj => by
            by_cases e : j = k
            · rw [e, hq2, Int.toNat_natCast, List.getD, List.getElem?_set_self (by rw [HLL.out]; exact hqn)]
              rfl
            · obtain ⟨m, hm1, hm2⟩ := HPE.out.at j (by rw [← HPE.out.len]; omega)
              have h1 := HLT.out j (by omega)
              rw [hm2, Int.toNat_natCast] at h1 ⊢
              have hne : q ≠ m := fun e2 => e (HPE.out.inj (by rw [← HPE.out.len]; omega) (by rw [← HPE.out.len]; omega) (by rw [hq2, hm2, e2]))
              rw [List.getD, List.getElem?_set_ne hne]
              exact h1
          obtain ⟨ov, hov⟩ : ∃ z, z = L.getD q 0 := ⟨_, rfl⟩
          rw [← hov] at a1
          have l1 : (k : Int) < (P.length : Int) := by omega
          have l2 : (q : Int) < (P.length : Int) := by omega
          clear a3 a4 hg hov hcp hq1 hq2
          go_wp2_with fail
          go_roundw
          case rel => exact ⟨NG.out, k + 1, _, hlt, by go_num, NO.out, by rw [List.length_set]; exact HLL.out, NL.out⟩
          case measure => simp [intOf]; omega
        · obtain rfl : P.length = k := by omega
          have TU : Hid (Vw.Turns P L x.length) := ⟨by rw [HLL.out]; exact HPE.out.len, fun j hj => HLT.out j (by rw [HPE.out.len]; exact hj)⟩
          have s1 := G1.out.size
          have s2 := GS.out.size
          have GR := hide (grown_trans (grown_trans GT.out GP.out) hg)
          have GR0 := hide (grown_trans (grown_trans GT0.out GP.out) hg)
          have GTr := hide (grown_trans GP.out hg)
          obtain ⟨wv, hwv⟩ : ∃ wv, wv = wr.alloc (.cells #[.string ⟨#[112, 101, 114, 109]⟩, .int .i64 7, .int .i64 0, .int .i64 0, .string ⟨#[]⟩, .int .i64 0, .slice none 0 0, .slice none 0 0, .slice (some ⟨w2.heap.size + 1, 0, none⟩) P.length P.length] 41) := ⟨_, rfl⟩
          obtain ⟨bv, zv⟩ := new_alloc (.cells #[.string ⟨#[112, 101, 114, 109]⟩, .int .i64 7, .int .i64 0, .int .i64 0, .string ⟨#[]⟩, .int .i64 0, .slice none 0 0, .slice none 0 0, .slice (some ⟨w2.heap.size + 1, 0, none⟩) P.length P.length] 41) (x := wr) rfl
          rw [← hwv] at bv zv
          have gv : wr.grownBy wv none := by rw [hwv]; exact grown_new _ _
          obtain ⟨k0, k2⟩ := BT.out wv (grown_trans GTr.out gv)
          obtain ⟨n0, n1, n2, n3, n4⟩ := nod_cells (n := ⟨⟨#[84, 114, 97, 110, 115, 112, 111, 115, 101]⟩, ⟨#[]⟩, ⟨some ⟨w1.heap.size, 0, none⟩, 1, 1⟩, ⟨#[121]⟩, ⟨some ⟨w1.heap.size + 1, 0, none⟩, 1, 1⟩⟩) k2
          have f4 := nod_frozen k2
          obtain ⟨wB, hwB⟩ : ∃ wB, wB = wv.setCell ⟨w1.heap.size + 1 + 1, 4, none⟩ (.slice (some ⟨wr.heap.size, 0, none⟩) 1 1) := ⟨_, rfl⟩
          have kB := heap_setCell_same wv (w1.heap.size + 1 + 1) 4 _ _ (.slice (some ⟨wr.heap.size, 0, none⟩) 1 1) k2
          rw [← hwB] at kB
          have kO : ∀ i, i ≠ w1.heap.size + 1 + 1 → wB.heap[i]? = wv.heap[i]? := fun i hi => by rw [hwB]; exact heap_setCell_other wv _ i _ hi
          have gB : wv.grownBy wB (some (w1.heap.size + 1 + 1)) := by rw [hwB]; exact set_grown _ _ _ _
          have zB : wB.heap.size = wr.heap.size + 1 := by rw [hwB]; simp [zv]
          have GB := hide (grown_drop (grown_trans GR.out gv) gB (by omega))
          have sw0 := GR0.out.size
          have GB0 := hide (grown_drop (grown_trans GR0.out gv) gB (by have := G01.out.size; omega))
          obtain ⟨m0, m1, m2, m3, m4⟩ := nod_cells (n := ⟨⟨#[84, 114, 97, 110, 115, 112, 111, 115, 101]⟩, ⟨#[]⟩, ⟨some ⟨w1.heap.size, 0, none⟩, 1, 1⟩, ⟨#[121]⟩, ⟨some ⟨wr.heap.size, 0, none⟩, 1, 1⟩⟩) kB
          have MI := hide (mints_any ⟨#[112, 101, 114, 109]⟩ ⟨some ⟨w2.heap.size + 1, 0, none⟩, P.length, P.length⟩ wr)
          simp only at MI
          have hTN : w1.heap.size + 1 + 1 < wT.heap.size := by rw [ZT.out]; omega
          have hT2 := S2.out
          obtain ⟨wU, hwU⟩ : ∃ wU, wU = wB.alloc (.cells #[.int .i64 ty', .slice da dn dc, .slice ta tn tc] 32) := ⟨_, rfl⟩
          have bU := heap_alloc_new wB (.cells #[.int .i64 ty', .slice da dn dc, .slice ta tn tc] 32)
          rw [← hwU, zB] at bU
          have gU : wB.grownBy wU none := by rw [hwU]; exact grown_new _ _
          have n1' : ∀ (v : Value), v.ownBlock = none ∨ v.ownBlock ≠ none ∨ True := fun v => .inr (.inr trivial)
          have up : ∀ {te : TypeId} {v : Value} {n : Nat} {ys : List Value}, p2.ownsRow wT.heap.size te 1 v n ys → wU.ownsRow wT.heap.size te 1 v n ys := fun {te v n ys} h => by
            have a0 : ∀ {a b : World}, a.grownBy b none → a.ownsRow wT.heap.size te 1 v n ys → b.ownsRow wT.heap.size te 1 v n ys := fun g h => h.kept g (by cases v.ownBlock <;> simp)
            refine a0 gU ((a0 gv (a0 hg h)).kept gB ?_)
            cases e : v.ownBlock with
            | none => exact .inl rfl
            | some k => exact .inr (fun e2 => by have := (h.lt k e).1; cases e2; omega)
          have IL : IsInts wU (.slice (some ⟨w2.heap.size + 1, 0, none⟩) P.length P.length) L := ((((HO.out.more gv (.inr (by simp [Value.ownBlock]))).more gB (.inr (by simp only [Value.ownBlock, ne_eq, Option.some.injEq]; omega))).more gU (.inr (by simp [Value.ownBlock]))).ints)
          have ID : IsInts wU (.slice da dn dc) l := Owns.ints ⟨up OD.out, ODR.out⟩
          have IT : IsInts wU (.slice ta tn tc) zs := OwnsE.ints ⟨up OT.out.1, OT.out.2⟩
          have AT := in_attrs (w := wU) (B := wr.heap.size) (nm := ⟨#[112, 101, 114, 109]⟩) (s := ⟨some ⟨w2.heap.size + 1, 0, none⟩, P.length, P.length⟩) (box_kept ((kO _ (by have := hg.size; rw [ZP.out] at this; omega)).trans bv) gU)
          have ST := x_strs (w := wU) (B := w1.heap.size) (box_kept ((kO _ (by omega)).trans k0) gU)
          have E2 := hide (tr_do ⟨⟨#[84, 114, 97, 110, 115, 112, 111, 115, 101]⟩, ⟨#[]⟩, ⟨some ⟨w1.heap.size, 0, none⟩, 1, 1⟩, ⟨#[121]⟩, ⟨some ⟨wr.heap.size, 0, none⟩, 1, 1⟩⟩ (inAt ⟨#[84, 114, 97, 110, 115, 112, 111, 115, 101]⟩ ⟨#[112, 101, 114, 109]⟩ ⟨some ⟨w2.heap.size + 1, 0, none⟩, P.length, P.length⟩ L) ⟨#[120]⟩ rfl ⟨some ⟨wr.heap.size + 1, 0, none⟩, 1, 1⟩ ⟨ty', ⟨da, dn, dc⟩, ⟨ta, tn, tc⟩⟩ l zs wU (HL.out.more (grown_trans GB.out gU)) (in_in ST IL AT) (in_ok IL AT) (pm_check _ _) (pm_then _ _) (by show 1 ≤ 1048576; omega) (one_ten _ bU ID IT))
          rw [back_ok (s' := ⟨some ⟨w2.heap.size + 1, 0, none⟩, P.length, P.length⟩) HR.out.symm TU.out] at E2
          unfold nval at E2
          simp only at E2
          have GU := hide (grown_trans GB.out gU)
          have GU0 := hide (grown_trans GB0.out gU)
          obtain ⟨a0, a1, a2⟩ := ten_cells ((kO _ (by omega)).trans (box_kept (box_kept BP.out hg) gv))
          rw [hwB, hwv] at m0 m1 m2 m3 m4 a0 a1 a2
          rw [hwv] at n0 n1 n2 n3 n4 f4
          clear k0 k2 kB kO gB zB bU gU n1' up IL ID IT AT ST bv zv gv hTN hT2 hg
          go_wp2_with fail
          refine MI.out.mono ?_
          rintro e wy ⟨rfl, rfl⟩
          go_wp2_with fail
          rw [← hwv, ← hwB, ← hwU]
          clear hwv hwB hwU m0 m1 m2 m3 m4 a0 a1 a2 n0 n1 n2 n3 n4 f4 s1 s2 sw0 MI
          refine E2.out.mono ?_
          rintro e w4 ⟨hg4, ⟨ty4, ⟨ba, bn, bc⟩, ⟨va, vn, vc⟩⟩, ht, rfl, od, ot⟩
          simp only at ht
          subst ht
          unfold tval
          simp only
          obtain ⟨p3, hp3⟩ : ∃ W, W = w4.alloc (.cells #[.int .i64 ty4, .slice ba bn bc, .slice va vn vc] 32) := ⟨_, rfl⟩
          have bp3 := heap_alloc_new w4 (.cells #[.int .i64 ty4, .slice ba bn bc, .slice va vn vc] 32)
          rw [← hp3] at bp3
          have gp3 : w4.grownBy p3 none := by rw [hp3]; exact grown_new _ _
          have G4 := hide (grown_trans GU.out (grown_trans hg4 gp3))
          have SA := hide (sameten_eq ty4 _ _ _ _ x xs p3 (od.ints.more gp3) (ot.ints.more gp3) (HX.out.more G4.out) (HXS.out.more G4.out))
          simp only [Sl.v] at SA
          obtain ⟨x0, x1, x2⟩ := ten_cells (BX.out p3 (grown_trans GU0.out (grown_trans hg4 gp3)))
          obtain ⟨y0, y1, y2⟩ := ten_cells bp3
          rw [hp3] at x0 x1 x2 y0 y1 y2
          clear bp3 gp3 hg4 od ot E2
          go_wp2_with (first | (go_at_call 12; rw [← hp3]; refine SA.out.mono ?_; rintro e w7 ⟨rfl, hg7⟩; have L7 := hide (LV.out w7 (grown_trans G4.out hg7))) | fail)
          refine L7.out.mono ?_
          rintro e w8 ⟨rfl, hg8⟩
          go_wp2
          go_ret
          exact ⟨rfl, grown_below (grown_trans (grown_trans G4.out hg7) hg8)⟩

end Go.Proofs.YtaoplfpigjkgpaaGreatDoor
