/- The document's Read, by the walk. -/
import Derived.Test.YthphkgnigfmlaaaVRMay
import Derived.Test.YthphkgnigfmlaaaVPlcAt
import Derived.Test.YthphkgnigfmlaaaVLast
import Derived.Test.YthphkgnigfmlaaaSOff
import Derived.Test.YthphkgnigfmlaaaVLive
import Derived.Deep.LoopGhost
namespace Go.Proofs.Ythphkgnigfmlaaa
open Go.RowKit

/-- The sum of the first k products. -/
def pd (cs ss : List Int) : Nat → Int
  | 0 => 0
  | k + 1 => pd cs ss k + cs.getD k 0 * ss.getD k 0

theorem pd_cons (c s : Int) (cs ss : List Int) : ∀ k, pd (c :: cs) (s :: ss) (k + 1) = c * s + pd cs ss k
  | 0 => by simp [pd]
  | k + 1 => by
    show pd (c :: cs) (s :: ss) (k + 1) + (c :: cs).getD (k + 1) 0 * (s :: ss).getD (k + 1) 0 = c * s + (pd cs ss k + cs.getD k 0 * ss.getD k 0)
    rw [pd_cons c s cs ss k, List.getD_cons_succ, List.getD_cons_succ]
    omega

theorem pd_dot : ∀ cs ss : List Int, cs.length = ss.length → pd cs ss cs.length = dot cs ss
  | [], [], _ => rfl
  | c :: cs, s :: ss, h => by
    simp only [List.length_cons] at h ⊢
    rw [pd_cons, pd_dot cs ss (by omega)]
    rfl
  | [], _ :: _, h => by simp at h
  | _ :: _, [], h => by simp at h

theorem mul_small {a b : Int} (ha : 0 ≤ a ∧ a ≤ 65536) (hb : 0 ≤ b ∧ b ≤ 65536) : 0 ≤ a * b ∧ a * b ≤ 4294967296 := by
  have h1 := Int.mul_nonneg ha.1 hb.1
  have h2 : a * b ≤ 65536 * 65536 := Int.mul_le_mul ha.2 hb.2 hb.1 (by omega)
  omega

theorem pd_le {cs ss : List Int} {n : Nat} (h : ∀ t, t < n → (0 ≤ cs.getD t 0 ∧ cs.getD t 0 ≤ 65536) ∧ 0 ≤ ss.getD t 0 ∧ ss.getD t 0 ≤ 65536) : ∀ k, k ≤ n → 0 ≤ pd cs ss k ∧ pd cs ss k ≤ k * 4294967296
  | 0, _ => by simp [pd]
  | k + 1, hk => by
    have h1 := pd_le h k (by omega)
    have h2 := mul_small (h k (by omega)).1 (h k (by omega)).2
    show 0 ≤ pd cs ss k + cs.getD k 0 * ss.getD k 0 ∧ pd cs ss k + cs.getD k 0 * ss.getD k 0 ≤ _
    omega

theorem plc_last : ∀ (ds ss : List Int) (p : Int), ss.length = ds.length → (∀ d ∈ ds, 1 ≤ d) → p + lst ds ss ∈ plc ds ss p
  | [], _, p, _, _ => by simp [plc, lst]
  | d :: ds, s :: ss, p, hl, h => by
    have hd := h d (by simp)
    simp only [plc, List.mem_flatMap, List.mem_range]
    refine ⟨d.toNat - 1, by omega, ?_⟩
    have := plc_last ds ss (p + ((d.toNat - 1 : Nat) : Int) * s) (by simpa using hl) fun y hy => h y (by simp [hy])
    rw [show ((d.toNat - 1 : Nat) : Int) = d - 1 by omega] at this ⊢
    simp only [lst]
    rw [← Int.add_assoc]
    exact this
  | _ :: _, [], _, hl, _ => by simp at hl

/-- The place of the element of a number, as the document says it. -/
theorem plc_pd {off : Int} {ds ss : List Int} (hm : MayV off ds ss) {k : Nat} (hk : (k : Int) < prod ds) : off + pd (crds ds k) ss ds.length = (plc ds ss off).getD k 0 := by
  have h1 := pd_dot (crds ds k) ss (by rw [crds_length, hm.len])
  rw [crds_length] at h1
  rw [h1, plc_at ds ss off hm.len hm.fine.pos k hk]

theorem plc_getD_mem {off : Int} {ds ss : List Int} {k : Nat} (hk : k < (plc ds ss off).length) : (plc ds ss off).getD k 0 ∈ plc ds ss off := by
  rw [List.getD, List.getElem?_eq_getElem hk]; simp

theorem crds_le {off : Int} {ds ss : List Int} (hm : MayV off ds ss) (k : Int) : ∀ t, t < ds.length → (0 ≤ (crds ds k).getD t 0 ∧ (crds ds k).getD t 0 ≤ 65536) ∧ 0 ≤ ss.getD t 0 ∧ ss.getD t 0 ≤ 65536 := by
  intro t ht
  have h1 := lst_at hm ht
  have h2 := inside_at (crds_inside ds k hm.fine.pos) t ht
  omega

theorem row_lower {w : World} {base base' : Nat} {e : TypeId} {size : Nat} {v : Value} {n : Nat} {xs : List Value} (h : w.ownsRow base e size v n xs) (hb : base' ≤ base) : w.ownsRow base' e size v n xs := by
  obtain ⟨h1, h2⟩ := h
  rcases h2 with h2 | ⟨g, cap, cur, e1, h3, h4⟩
  · exact ⟨h1, .inl h2⟩
  · exact ⟨h1, .inr ⟨g, cap, cur, e1, Nat.le_trans hb h3, h4⟩⟩

set_option maxRecDepth 100000 in
set_option maxHeartbeats 3200000 in
theorem refread_any (off : Int) (ds ss data : List Int) (v xv : Value) (w : World) (h : IsView w v off ds ss) (hx : IsInts w xv data) :
    Calls Try.prog 22 #[v, xv] w fun e w' => ∃ u, e = .returned (.tuple #[u, .int .i64 (rdE off ds ss data)]) ∧ Owns64 w' w.heap.size u (rdL off ds ss data) ∧ w.grownBy w' none := by
  obtain ⟨i0, hi, hz0, hz1, hz2⟩ := info_parts info64
  have HV := hide h
  have HX := hide hx
  obtain ⟨dv, sv, rfl, hd, hs, ho1, ho2⟩ := h
  have HD := hide hd
  have HS := hide hs
  obtain ⟨da, dc, rfl, hd1, hd2, hd3, -, -, -⟩ := hd
  obtain ⟨sa, sc, rfl, hs1, hs2, hs3, -, -, -⟩ := hs
  obtain ⟨xa, xc, rfl, hx1, hx2, hx3, -, -, hxw⟩ := hx
  have HXW := hide hxw
  clear hxw
  have g1 := grown_new w (.cells #[.int .i64 off, .slice da ds.length dc, .slice sa ss.length sc] 24)
  have MY := hide (refmay_any _ off ds ss _ (HV.out.more g1))
  by_cases hm : MayV off ds ss
  · rw [mayB_iff.2 hm] at MY
    have HM := hide hm
    have hfew := hm.fine.few
    have hle := hm.fine.le
    have hp0 := hm.fine.prod_pos
    have hlo := hm.lo
    have hhi := hm.hi
    obtain ⟨N, hN⟩ : ∃ N : Nat, prod ds = N := ⟨(prod ds).toNat, by omega⟩
    have CT := hide (fun wx (hx : IsInts wx (.slice da ds.length dc) ds) => refcount_any _ ds wx hx)
    rw [hm.fine.ok, hm.fine.cnt, hN] at CT
    have HN := hide hN
    have HPL : Hid ((plc ds ss off).length = N) := by
      show _ = _
      rw [plc_length ds ss off hm.len hm.fine.pos, hN]; rfl
    have hN1 : N ≤ 65536 := by omega
    have hsl1 : ss.length ≤ ds.length := by have := hm.len; omega
    have hsl2 : ds.length ≤ ss.length := by have := hm.len; omega
    clear hm hN hle hp0
    go_enter Try.func22, Try.ntmps22
    go_wp2_with fail
    refine MY.out.mono ?_
    rintro e w1 ⟨rfl, hg1⟩
    have g01 := grown_trans g1 hg1
    have bX : Hid (∀ wx, w1.grownBy wx none → wx.heap[w.heap.size]? = some (.cells #[.int .i64 off, .slice da ds.length dc, .slice sa ss.length sc] 24 (0, 0))) := fun wx hx => box_kept (box_kept (heap_alloc_new w _) hg1) hx
    obtain ⟨q0, q1, q2, -, -, -⟩ := box_cells (bX.out w1 (grown_refl _))
    go_wp2_with fail
    refine (CT.out _ (HD.out.more g01)).mono ?_
    rintro e w' ⟨rfl, rfl⟩
    clear q0 q1 q2
    go_wp2
    go_loopg [8, 9] N (fun f v i wr => ∃ k : Nat, f = N - k ∧ k ≤ N ∧ i = .int .i64 k ∧ wr.ownsRow w1.heap.size 2 1 v k ((((plc ds ss off).take k).map (fun x => data.getD x.toNat 0)).map (Value.int .i64)) ∧ w1.grownBy wr none ∧ ∀ t, t < k → (plc ds ss off).getD t 0 < data.length)
    case atStart => exact ⟨0, rfl, Nat.zero_le _, rfl, by simpa using World.ownsRow_nil _ _ _ _, grown_refl _, fun t h => absurd h (by omega)⟩
    case round =>
      obtain ⟨k, rfl, hk, rfl, hown, hw, hall⟩ := hrel
      have HO := hide hown
      have HA := hide hall
      clear hown hall
      have g0r := grown_trans g01 hw
      by_cases hkl : k < N
      · obtain ⟨q0, q1, q2, -, -, -⟩ := box_cells (bX.out wr hw)
        have cc := refcoords_any (.slice da ds.length dc) ds k wr (HD.out.more g0r) (by omega) (by omega)
        have hce : crdsE ds k = 0 := by
          have h1 := HN.out
          simp only [crdsE, HM.out.fine.ok, ne_eq, not_true_eq_false, if_false]
          rw [if_neg (by omega)]
        rw [show crdsL ds k = crds ds k by simp [crdsL, hce], hce] at cc
        have CC := hide cc
        clear cc hce
        go_wp2_with fail
        refine CC.out.mono ?_
        rintro e w5 ⟨u, rfl, ou, hg5⟩
        have OU := hide ou.ints
        obtain ⟨ca, ccap, rfl, hc1, hc2, hc3, -, -, -⟩ := ou.ints
        have hcl : (crds ds (k : Int)).length = ds.length := crds_length _ _
        obtain ⟨C, hC⟩ : ∃ C, C = crds ds (k : Int) := ⟨_, rfl⟩
        rw [← hC] at OU hc1 hc3 hcl
        rw [← hC]
        have hcl1 : C.length ≤ ds.length := by omega
        have hcl2 : ds.length ≤ C.length := by omega
        have HB := hide (crds_le HM.out k)
        have HP := hide (plc_pd HM.out (k := k) (by have := HN.out; omega))
        rw [← hC] at HB HP
        clear ou hcl hC q0 q1 q2
        obtain ⟨q0, q1, q2, -, -, -⟩ := box_cells (bX.out w5 (grown_trans hw hg5))
        obtain ⟨wo, rfl⟩ : ∃ wo, wo = wr := ⟨_, rfl⟩
        go_wp2
        clear q0 q1 q2
        go_loopg [12, 13] ds.length (fun f m i wx => ∃ j : Nat, f = ds.length - j ∧ j ≤ ds.length ∧ i = .int .i64 j ∧ m = .int .i64 (off + pd C ss j) ∧ wo.grownBy wx none ∧ w5.grownBy wx none)
        case atStart => exact ⟨0, rfl, Nat.zero_le _, rfl, by simp [pd], hg5, grown_refl _⟩
        case round =>
          obtain ⟨j, rfl, hj, rfl, hmm, hgx, hg5x⟩ := hrel
          obtain ⟨hpd1, hpd2⟩ := pd_le HB.out j hj
          by_cases hjl : j < ds.length
          · obtain ⟨q0, q1, q2, -, -, -⟩ := box_cells (bX.out wr (grown_trans hw hgx))
            obtain ⟨hb1, hb2⟩ := HB.out j hjl
            have hms := mul_small hb1 hb2
            have hst : Hid (pd C ss (j + 1) = pd C ss j + C.getD j 0 * ss.getD j 0) := rfl
            obtain ⟨cb, co, hco⟩ := addr_of OU.out (show 0 < C.length by omega)
            obtain ⟨sb, so, hso⟩ := addr_of HS.out (show 0 < ss.length by omega)
            subst hco hso
            have hci := item_at (OU.out.more hg5x) (show j < C.length by omega)
            have hsi := item_at (HS.out.more (grown_trans g0r hgx)) (show j < ss.length by omega)
            obtain ⟨D, hD⟩ : ∃ D, D = pd C ss j := ⟨_, rfl⟩
            obtain ⟨c, hc⟩ : ∃ c, c = C.getD j 0 := ⟨_, rfl⟩
            obtain ⟨s, hs'⟩ : ∃ s, s = ss.getD j 0 := ⟨_, rfl⟩
            rw [← hD] at hmm hpd1 hpd2 hst
            rw [← hc] at hci hst hms hb1
            rw [← hs'] at hsi hst hms hb2
            obtain ⟨hms1, hms2⟩ := hms
            subst hmm
            clear hD hc hs'
            go_wp2
            go_region
            all_goals go_wp2
            go_roundg (ds.length - (j + 1))
            case measure => omega
            case rel => exact ⟨j + 1, rfl, by omega, by go_num, by rw [hst.out, Int.add_assoc], grown_drew hgx, grown_drew hg5x⟩
          · obtain rfl : j = ds.length := by omega
            rw [HP.out] at hmm
            have hpl := plc_mem ds ss off (fun y hy => (HM.out.str y hy).1) HM.out.fine.pos _ (plc_getD_mem (k := k) (by rw [HPL.out]; exact hkl))
            obtain ⟨pn, hpn⟩ : ∃ pn : Nat, (plc ds ss off).getD k 0 = pn := ⟨((plc ds ss off).getD k 0).toNat, by omega⟩
            rw [hpn] at hmm hpl
            subst hmm
            have HPN := hide hpn
            clear hpn hpd1 hpd2
            by_cases hat : pn < data.length
            · obtain ⟨xb, xo, hxo⟩ := addr_of HX.out (show 0 < data.length by omega)
              subst hxo
              have hxi := item_at (HX.out.more (grown_trans g0r hgx)) hat
              obtain ⟨z, hz⟩ : ∃ z, z = data.getD pn 0 := ⟨_, rfl⟩
              rw [← hz] at hxi
              have HZ := hide hz
              have HOx := hide (HO.out.kept hgx (by cases u8.ownBlock <;> simp))
              have hsz := (grown_trans hw hgx).size
              clear hz hpl
              go_wp2_with (at_builtin; refine wpList_append_own _ rfl (.tmp 59) (.tmp 64) 38 rfl w1.heap.size 2 i0 (.int .i64 0) 1 8 Try.underlying38 hi hz0 hz1 hz2 rfl (by decide) _ _ _ rfl (HOx.out.alloc _) ⟨wr.heap.size, 0, none⟩ 1 1 [.int .i64 z] rfl rfl (cell_one_new _ _ _) (by simp [Value.oneCell']) (by simp only [maxLen]; omega) (by omega) (by simp; omega) ?_; intro v' w6 hown' hgrow _)
              have HO' := hide hown'
              clear hown'
              go_wp2
              go_roundg (N - (k + 1))
              case measure => omega
              case rel =>
                refine ⟨k + 1, rfl, by omega, by go_num, ?_, ?_, fun t ht => ?_⟩
                · rw [take_step _ k (by rw [HPL.out]; exact hkl), HPN.out, List.map_append, List.map_append]
                  have h5 := HO'.out
                  rw [HZ.out] at h5
                  simpa using h5
                · exact grown_trans_row (grown_trans (grown_trans hw hgx) (grown_new _ _)) hgrow (fun g hg => (HOx.out.lt g hg).1)
                · rcases lt_succ_cases ht with h | rfl
                  · exact HA.out t h
                  · rw [HPN.out]; omega
            · have HF : Hid (rdOk off ds ss data = false) := by
                simp only [Hid, rdOk, Bool.and_eq_false_iff, decide_eq_false_iff_not]
                exact .inr (by omega)
              clear hpl
              go_wp2
              go_ret2
              exact ret_read1 HF.out (grown_trans g0r hgx)
      · obtain rfl : k = N := by omega
        have HOK : Hid (rdOk off ds ss data = true) := by
          simp only [Hid, rdOk, Bool.and_eq_true, decide_eq_true_eq]
          refine ⟨mayB_iff.2 HM.out, ?_⟩
          obtain ⟨t, ht, e⟩ := List.mem_iff_getElem.1 (plc_last ds ss off HM.out.len HM.out.fine.pos)
          have h1 := HA.out t (by rw [← HPL.out]; exact ht)
          rw [List.getD, List.getElem?_eq_getElem ht, Option.getD_some, e] at h1
          exact h1
        go_wp2
        go_ret2
        have e1 : rdE off ds ss data = 0 := by simp [rdE, HOK.out]
        have e2 : rdL off ds ss data = shows off ds ss data := by simp [rdL, HOK.out]
        have e3 : (shows off ds ss data).length = k := by rw [shows, List.length_map, HPL.out]
        have h4 := row_lower HO.out g01.size
        rw [List.take_of_length_le (by rw [HPL.out]; exact Nat.le_refl _)] at h4
        exact ⟨u8, by rw [e1]; rfl, ⟨by rw [e2, e3]; exact h4, by rw [e2, e3]; omega, by rw [e2]; exact shows_wf HXW.out⟩, g0r⟩
  · rw [mayB_false hm] at MY
    have HF : Hid (rdOk off ds ss data = false) := by simp [Hid, rdOk, mayB_false hm]
    clear hm
    go_enter Try.func22, Try.ntmps22
    go_wp2_with fail
    refine MY.out.mono ?_
    rintro e w1 ⟨rfl, hg1⟩
    go_wp2
    go_ret2
    exact ret_read1 HF.out (grown_trans g1 hg1)
end Go.Proofs.Ythphkgnigfmlaaa
