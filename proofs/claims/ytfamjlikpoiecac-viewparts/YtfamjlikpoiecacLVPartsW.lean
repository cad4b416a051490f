/- ViewParts, by the walk. -/
import Derived.Test.YtfamjlikpoiecacVSlice
import Derived.Test.YtfamjlikpoiecacVLive
import Derived.Deep.RegionWith
namespace Go.Proofs.Ytfamjlikpoiecac
open Go.RowKit

theorem plc_split (d a : Int) (ds ss : List Int) (s p : Int) (ha0 : 0 ≤ a) (ha1 : a ≤ d) : plc (d :: ds) (s :: ss) p = plc (a :: ds) (s :: ss) p ++ plc ((d - a) :: ds) (s :: ss) (p + a * s) := by
  simp only [plc]
  obtain ⟨x, rfl⟩ : ∃ x : Nat, a = x := ⟨a.toNat, by omega⟩
  obtain ⟨y, hy⟩ : ∃ y : Nat, d - x = y := ⟨(d - x).toNat, by omega⟩
  rw [show d.toNat = x + y by omega, hy, List.range_add, List.flatMap_append, List.flatMap_map]
  simp only [Int.toNat_natCast]
  congr 1
  congr 1
  funext i
  rw [Int.natCast_add, Int.add_mul, ← Int.add_assoc]

/-- A view and its two parts: they may be, and show together what it shows. -/
theorem parts_read {off a : Int} {ds ss data : List Int} (hl : 0 < ds.length) (h : rdOk off ds ss data = true) (ha1 : 1 ≤ a) (ha2 : a < ds.getD 0 0) (ho : off + a * ss.getD 0 0 ≤ 65535) :
    rdOk off (ds.set 0 a) ss data = true ∧ rdOk (off + a * ss.getD 0 0) (ds.set 0 (ds.getD 0 0 - a)) ss data = true ∧
    shows off (ds.set 0 a) ss data ++ shows (off + a * ss.getD 0 0) (ds.set 0 (ds.getD 0 0 - a)) ss data = shows off ds ss data := by
  simp only [rdOk, Bool.and_eq_true, decide_eq_true_eq] at h
  obtain ⟨hM0, hlt⟩ := h
  have hM := mayB_iff.1 hM0
  match ds, ss, hl, hM.len with
  | d :: ds, s :: ss, _, hlen =>
    simp only [List.getD_cons_zero, List.set_cons_zero] at *
    have hs := hM.str s (by simp)
    have hpd := prod_pos ds fun y hy => hM.fine.pos y (by simp [hy])
    have hle := hM.fine.le
    simp only [prod] at hle
    have hfine : ∀ x, 1 ≤ x → x ≤ d → Fine (x :: ds) := fun x h1 h2 => by
      refine ⟨fun z hz => ?_, by have := hM.fine.few; simpa using this, ?_⟩
      · rcases List.mem_cons.1 hz with rfl | hz
        · exact h1
        · exact hM.fine.pos z (by simp [hz])
      · simp only [prod]
        have := Int.mul_le_mul_of_nonneg_right h2 (show 0 ≤ prod ds by omega)
        omega
    have hms : 0 ≤ a * s := Int.mul_nonneg (by omega) hs.1
    have mA : MayV off (a :: ds) (s :: ss) := ⟨hfine a ha1 (by omega), by simpa using hlen, hM.lo, hM.hi, hM.str⟩
    have mB : MayV (off + a * s) ((d - a) :: ds) (s :: ss) := ⟨hfine (d - a) (by omega) (by omega), by simpa using hlen, by have := hM.lo; omega, ho, hM.str⟩
    simp only [lst] at hlt
    have e1 : (a - 1) * s ≤ (d - 1) * s := Int.mul_le_mul_of_nonneg_right (by omega) hs.1
    have e2 : a * s + (d - a - 1) * s = (d - 1) * s := by rw [← Int.add_mul]; congr 1; omega
    have hA : off + ((a - 1) * s + lst ds ss) < data.length := by omega
    have hB : off + a * s + ((d - a - 1) * s + lst ds ss) < data.length := by omega
    refine ⟨?_, ?_, ?_⟩
    · simp only [rdOk, mayB_iff.2 mA, Bool.true_and, lst]
      exact decide_eq_true hA
    · simp only [rdOk, mayB_iff.2 mB, Bool.true_and, lst]
      exact decide_eq_true hB
    simp only [shows]
    rw [plc_split d a ds ss s off (by omega) (by omega), List.map_append]

theorem sliced_ok {off : Int} {ds ss : List Int} {axis fr to : Int} {E off' : Int} {ds' ss' : List Int} (h : Sliced off ds ss axis fr to E off' ds' ss') (hE : E = 0) :
    PartOk ds axis fr to ∧ off + fr * ss.getD axis.toNat 0 ≤ 65535 ∧ off' = off + fr * ss.getD axis.toNat 0 ∧ ds' = ds.set axis.toNat (to - fr) ∧ ss' = ss := by
  rcases h with ⟨_, h, _⟩ | ⟨_, _, h, _⟩ | ⟨_, _, _, h, _⟩ | ⟨_, h1, h2, _, h3, h4, h5⟩
  · rw [h] at hE; cases hE
  · rw [h] at hE; cases hE
  · rw [h] at hE; cases hE
  · exact ⟨h1, h2, h3, h4, h5⟩

/-- append(s, x...): s of the call's own, x any list. -/
theorem wpList_app64 {w : World} {ops : Array Oper} {rest : List Oper} {o : Oper} {a : Act} {Q : Exit → Act → World → Prop} (hgd : o.guard = none) (s x : Operand)
    (ho : o.op = .call { callee := .builtin .append, args := #[s, x], argTypes := #[31, 31] })
    (base : Nat) (v : Value) (xs : List Int) (hs : a.eval s = v) (hown : Owns64 w base v xs) (xv : Value) (ys : List Int) (hx : a.eval x = xv) (hys : IsInts w xv ys)
    (hbytes : (xs.length + ys.length) * 8 ≤ 140737488351232) (hbase : base ≤ w.heap.size)
    (h : ∀ v' w', Owns64 w' base v' (xs ++ ys) → w.grownBy w' v.ownBlock → wpList Try.prog ops Q rest (a.put o.dst v') w') : wpList Try.prog ops Q (o :: rest) a w := by
  obtain ⟨i0, hi, hz0, hz1, hz2⟩ := info_parts info64
  obtain ⟨ao, cap, rfl, h1, h2, h3, h4, h5, h6⟩ := hys
  cases ao with
  | none =>
    obtain ⟨rfl, rfl⟩ := h4 rfl
    refine wpList_append_own_none hgd s x 31 ho base 2 i0 1 Try.underlying31 hi v _ _ hs hown.1 hx ?_
    exact h v w (by simpa using hown) (World.grownBy.refl _ _)
  | some ad =>
    refine wpList_append_own w hgd s x 31 ho base 2 i0 (.int .i64 0) 1 8 Try.underlying31 hi hz0 hz1 hz2 rfl (by decide) v _ _ hs hown.1 ad ys.length cap (ys.map (Value.int .i64)) hx (by simp) ?_ (ints_oneCell _ _) (by simp only [maxLen]; omega) (by omega) hbase ?_
    · by_cases hl : 0 < ys.length
      · obtain ⟨b, off, hao, hc⟩ := h5 hl
        obtain rfl := Option.some.inj hao
        exact list_cells hc
      · obtain rfl : ys = [] := List.length_eq_zero_iff.1 (by omega)
        intro j u hu
        simp at hu
    · intro v' w' ho' hg _
      refine h v' w' ⟨by simpa using ho', by simpa using hbytes, fun z hz => ?_⟩ hg
      rcases List.mem_append.1 hz with h | h
      · exact hown.2.2 z h
      · exact h6 z h

theorem append64 (w : World) (ty : TypeId) (base : Nat) (v : Value) (xs : List Int) (hown : Owns64 w base v xs) (xv : Value) (ys : List Int) (hys : IsInts w xv ys) (hbytes : (xs.length + ys.length) * 8 ≤ 140737488351232) (hbase : base ≤ w.heap.size) :
    ∃ v' w', (Builtin.append_ #[31, 31] ty #[v, xv]).run Try.prog w = .ok v' w' ∧ Owns64 w' base v' (xs ++ ys) ∧ w.grownBy w' v.ownBlock := by
  obtain ⟨i0, hi, hz0, hz1, hz2⟩ := info_parts info64
  obtain ⟨ao, cap, rfl, h1, h2, h3, h4, h5, h6⟩ := hys
  cases ao with
  | none =>
    obtain ⟨rfl, rfl⟩ := h4 rfl
    have := run_append_owned_none (P := Try.prog) (w := w) base 31 ty 2 i0 1 Try.underlying31 hi v _ _ hown.1
    exact ⟨v, w, this, by simpa using hown, World.grownBy.refl _ _⟩
  | some ad =>
    obtain ⟨v', w', hr, ho', hg, _⟩ := run_append_own (P := Try.prog) w base 31 ty 2 i0 (.int .i64 0) 1 8 Try.underlying31 hi hz0 hz1 hz2 rfl (by decide) v _ _ hown.1 ad ys.length cap (ys.map (Value.int .i64)) (by simp) (by
      by_cases hl : 0 < ys.length
      · obtain ⟨b, off, hao, hc⟩ := h5 hl
        obtain rfl := Option.some.inj hao
        exact list_cells hc
      · obtain rfl : ys = [] := List.length_eq_zero_iff.1 (by omega)
        intro j u hu
        simp at hu) (ints_oneCell _ _) (by simp only [maxLen]; omega) (by omega) hbase
    refine ⟨v', w', hr, ⟨by simpa using ho', by simpa using hbytes, fun z hz => ?_⟩, hg⟩
    rcases List.mem_append.1 hz with h | h
    · exact hown.2.2 z h
    · exact h6 z h

/-- append(s, x...) under a guard that says yes. -/
theorem wpList_app64g {w : World} {ops : Array Oper} {rest : List Oper} {o : Oper} {a : Act} {Q : Exit → Act → World → Prop} (hw : Region.wanted o (yielded ops a.tmps) = true) (s x : Operand)
    (ho : o.op = .call { callee := .builtin .append, args := #[s, x], argTypes := #[31, 31] })
    (base : Nat) (v : Value) (xs : List Int) (hs : a.eval s = v) (hown : Owns64 w base v xs) (xv : Value) (ys : List Int) (hx : a.eval x = xv) (hys : IsInts w xv ys)
    (hbytes : (xs.length + ys.length) * 8 ≤ 140737488351232) (hbase : base ≤ w.heap.size)
    (h : ∀ v' w', Owns64 w' base v' (xs ++ ys) → w.grownBy w' v.ownBlock → wpList Try.prog ops Q rest (a.put o.dst v') w') : wpList Try.prog ops Q (o :: rest) a w := by
  obtain ⟨v', w', hr, h1, h2⟩ := append64 w o.type base v xs hown xv ys hys hbytes hbase
  refine BigFrame.wpList_want hw fun K hK => ?_
  unfold Oper.wp
  simp [execOp, ho, resolve, invoke, builtin, hs, hx, hr, Result.andThen]
  exact hK _ _ (h v' w' h1 h2)

theorem pack_one {w2 w3 : World} {base : Nat} {off : Int} {d s : Value} {ds ss : List Int} (hg : w2.grownBy w3 none) (hv : OwnView w3 base (.agg #[.int .i64 off, d, s]) off ds ss) :
    ∃ wF, wF = w3.alloc (.cells #[.int .i64 off, d, s] 24) ∧ w2.grownBy wF none ∧ (∀ wx, wF.grownBy wx none → wx.heap[w3.heap.size]? = some (.cells #[.int .i64 off, d, s] 24 (0, 0))) ∧ IsView wF (.agg #[.int .i64 off, d, s]) off ds ss :=
  ⟨_, rfl, grown_trans hg (grown_new _ _), fun _ hx => box_kept (heap_alloc_new w3 _) hx, (hv.new (grown_new _ _)).view⟩

theorem pack_two {w2 w3 : World} {base : Nat} {off : Int} {d s z0 z1 z2 : Value} {ds ss : List Int} (hb : w3.heap[w2.heap.size]? = some (.cells #[z0, z1, z2] 24 (0, 0))) (hg : w2.grownBy w3 none) (hv : OwnView w3 base (.agg #[.int .i64 off, d, s]) off ds ss) (hbase : w2.heap.size < base) :
    ∃ wF, wF = ((w3.setCell ⟨w2.heap.size, 0, none⟩ (.int .i64 off)).setCell ⟨w2.heap.size, 1, none⟩ d).setCell ⟨w2.heap.size, 2, none⟩ s ∧ w2.grownBy wF none ∧ (∀ wx, wF.grownBy wx none → wx.heap[w2.heap.size]? = some (.cells #[.int .i64 off, d, s] 24 (0, 0))) ∧ IsView wF (.agg #[.int .i64 off, d, s]) off ds ss := by
  obtain ⟨hX, gX, gB⟩ := store3 (.int .i64 off) d s hg (Nat.le_refl _) hb
  obtain ⟨d', s', e, od, os, h1, h2, _⟩ := hv
  simp only [Value.agg.injEq, Array.mk.injEq, List.cons.injEq, and_true, true_and] at e
  obtain ⟨rfl, rfl⟩ := e
  exact ⟨_, rfl, gX, fun _ hx => box_kept hX hx, _, _, rfl, (od.box gB hbase).ints, (os.box gB hbase).ints, h1, h2⟩

set_option maxHeartbeats 16000000 in
theorem vparts_walk (v : Value) (z : Int × List Int × List Int) (a : Int) (ha1 : -9223372036854775808 ≤ a) (ha2 : a ≤ 9223372036854775807) (xv : Value) (data : List Int) (w : World) (h : IsView w v z.1 z.2.1 z.2.2) (hx : IsInts w xv data) :
    Calls Try.prog 4 #[v, .int .i64 a, xv] w fun e w' => e = .returned (.bool true) ∧ Below w.heap.size w w' := by
  obtain ⟨off, ds, ss⟩ := z
  simp only at h
  have HV := hide h
  have HX := hide hx
  obtain ⟨dv, sv, rfl, hd, hs, ho1, ho2⟩ := h
  have HD := hide hd
  obtain ⟨w0, hw0⟩ : ∃ w0, w0 = w.alloc (.cells #[.int .i64 off, dv, sv] 24) := ⟨_, rfl⟩
  have g0 : w.grownBy w0 none := by rw [hw0]; exact grown_new _ _
  have bV : Hid (∀ wx, w0.grownBy wx none → wx.heap[w.heap.size]? = some (.cells #[.int .i64 off, dv, sv] 24 (0, 0))) := fun wx hx => box_kept (by rw [hw0]; exact heap_alloc_new w _) hx
  obtain ⟨da, dc, rfl, hd1, hd2, hd3, -, -, -⟩ := hd
  clear hx hs
  by_cases hl0 : ds.length = 0
  · have hl' : ((ds.length : Int) == 0) = true := by simp [hl0]
    clear hl0
    go_enter Try.func4, Try.ntmps4
    go_wp2_with fail
    rw [← hw0]
    clear hw0
    refine (vlive_any _).mono ?_
    rintro e w2 ⟨rfl, hg2⟩
    go_wp2
    go_ret
    exact ⟨rfl, grown_below (grown_trans g0 hg2)⟩
  · have hl1 : 0 < ds.length := by omega
    have hl' : ((ds.length : Int) == 0) = false := beq_eq_false_iff_ne.2 (by omega)
    obtain ⟨bd, od, rfl⟩ := addr_of HD.out hl1
    have hd0 := HD.out.wf (ds.getD 0 0) (by rw [List.getD, List.getElem?_eq_getElem hl1]; simp)
    have S1 := hide (slice_any _ 0 0 a off ds ss w0 (HV.out.more g0) (by omega) (by omega) (by omega) (by omega) ha1 ha2)
    clear hl0
    go_enter Try.func4, Try.ntmps4
    go_wp2_with fail
    rw [← hw0]
    clear hw0
    refine S1.out.mono ?_
    rintro e w1 ⟨u1, E1, off1, ds1, ss1, rfl, hr1, ou1, hg1⟩
    have V1 := hide ou1.view
    obtain ⟨d1, s1, rfl, od1, os1, -, -, -⟩ := ou1
    obtain ⟨da1, dc1, rfl, -, -, -, -, -, -⟩ := od1.ints
    obtain ⟨sa1, sc1, rfl, -, -, -, -, -, -⟩ := os1.ints
    obtain ⟨w2, hw2⟩ : ∃ w2, w2 = w1.alloc (.cells #[.int .i64 off1, .slice da1 ds1.length dc1, .slice sa1 ss1.length sc1] 24) := ⟨_, rfl⟩
    have hg2 : w1.grownBy w2 none := by rw [hw2]; exact grown_new _ _
    have b1 : Hid (∀ wx, w2.grownBy wx none → wx.heap[w1.heap.size]? = some (.cells #[.int .i64 off1, .slice da1 ds1.length dc1, .slice sa1 ss1.length sc1] 24 (0, 0))) := fun wx hx => box_kept (by rw [hw2]; exact heap_alloc_new w1 _) hx
    have g02 := grown_trans hg1 hg2
    obtain ⟨x0, x1, x2, -, -, -⟩ := box_cells (bV.out w2 g02)
    have c0 := item_at (HD.out.more (grown_trans g0 g02)) hl1
    rw [Nat.add_zero] at c0
    have gd := grown_drew (grown_refl w2)
    obtain ⟨D, hD⟩ : ∃ D, D = ds.getD 0 0 := ⟨_, rfl⟩
    rw [← hD] at c0 hd0
    have HDD := hide hD
    have S2 : Hid (∀ wx, w2.grownBy wx none → Calls Try.prog 14 #[.agg #[.int .i64 off, .slice (some ⟨bd, od, none⟩) ds.length dc, sv], .int .i64 0, .int .i64 a, .int .i64 D] wx fun e w' => ∃ u E off' ds' ss', e = .returned (.tuple #[u, .int .i64 E]) ∧ Sliced off ds ss 0 a D E off' ds' ss' ∧ OwnView w' wx.heap.size u off' ds' ss' ∧ wx.grownBy w' none) :=
      fun wx hx => slice_any _ 0 a D off ds ss wx (HV.out.more (grown_trans g0 (grown_trans g02 hx))) (by omega) (by omega) ha1 ha2 hd0.1 hd0.2
    clear od1 os1 hD
    go_wp2
    rw [← hw2]
    clear hw2
    obtain ⟨m0, m1, m2, -, -, -⟩ := box_cells (bV.out (w2.alloc (.cells #[.int .i64 0, .slice none 0 0, .slice none 0 0] 24)) (grown_trans g02 (grown_new _ _)))
    have c1 := item_at (HD.out.more (grown_trans g0 (grown_trans g02 (grown_new w2 (.cells #[.int .i64 0, .slice none 0 0, .slice none 0 0] 24))))) hl1
    rw [Nat.add_zero, ← HDD.out] at c1
    have gd2 := grown_drew (grown_new w2 (.cells #[.int .i64 0, .slice none 0 0, .slice none 0 0] 24))
    have bZ := hide (show (w2.alloc (.cells #[.int .i64 0, .slice none 0 0, .slice none 0 0] 24)).drew.heap[w2.heap.size]? = some (.cells #[.int .i64 0, .slice none 0 0, .slice none 0 0] 24 (0, 0)) from heap_alloc_new w2 _)
    go_region_with (first
      | (go_at_call 14; refine (S2.out _ (by exact gd2)).mono ?_; rintro e w3 ⟨u2, E2, off2, ds2, ss2, rfl, hr2, ou2, hg3⟩; have hb3 := box_kept bZ.out hg3; obtain ⟨k0, k1, k2, f0, f1, f2⟩ := box_cells hb3; have V2 := hide ou2; obtain ⟨d2, s2, rfl, od2, os2, -, -, -⟩ := ou2; obtain ⟨da2, dc2, rfl, -, -, -, -, -, -⟩ := od2.ints; obtain ⟨sa2, sc2, rfl, -, -, -, -, -, -⟩ := os2.ints)
      | (go_at_call 14; refine (S2.out _ (by exact gd)).mono ?_; rintro e w3 ⟨u2, E2, off2, ds2, ss2, rfl, hr2, ou2, hg3⟩; have V2 := hide ou2; obtain ⟨d2, s2, rfl, od2, os2, -, -, -⟩ := ou2; obtain ⟨da2, dc2, rfl, -, -, -, -, -, -⟩ := od2.ints; obtain ⟨sa2, sc2, rfl, -, -, -, -, -, -⟩ := os2.ints))
    all_goals
      first
        | (obtain ⟨wF, hwF, gF, BF, VF⟩ := pack_two hb3 (grown_trans gd2 hg3) V2.out (by simp)
           rw [← hwF])
        | (obtain ⟨wF, hwF, gF, BF, VF⟩ := pack_one (grown_trans gd hg3) V2.out
           rw [← hwF])
      have HBF := hide BF
      have HVF := hide VF
      clear hwF BF VF od2 os2 V2
      obtain ⟨n0, n1, n2, -, -, -⟩ := box_cells (bV.out wF (grown_trans g02 gF))
      have g0F := grown_trans g0 (grown_trans g02 gF)
      have C3 := read_any off ds ss data _ xv wF (HV.out.more g0F) (HX.out.more g0F)
      clear x0 x1 x2 m0 m1 m2 c0 c1
      by_cases h3 : rdOk off ds ss data = true
      · rw [show rdE off ds ss data = 0 by simp [rdE, h3], show rdL off ds ss data = shows off ds ss data by simp [rdL, h3]] at C3
        have HC3 := hide C3
        clear C3
        by_cases h1 : E1 = 0
        · subst h1
          by_cases h2 : E2 = 0
          · subst h2
            obtain ⟨p1, -, e1, e2, e3⟩ := sliced_ok hr1 rfl
            obtain ⟨p2, o2, e4, e5, e6⟩ := sliced_ok hr2 rfl
            simp only [Int.toNat_zero] at e1 e2 e4 e5 o2
            have hp1 := p1.2.2.2.2
            have hp2 := p2.2.2.2.2
            rw [HDD.out] at hp2 e5
            obtain ⟨q1, q2, q3⟩ := parts_read hl1 h3 (by omega) hp2 o2
            rw [show off + 0 * ss.getD 0 0 = off by omega] at e1
            rw [show a - 0 = a by omega] at e2
            have K1 : rdE off1 ds1 ss1 data = 0 ∧ rdL off1 ds1 ss1 data = shows off (ds.set 0 a) ss data := by rw [e1, e2, e3]; simp [rdE, rdL, q1]
            have K2 : rdE off2 ds2 ss2 data = 0 ∧ rdL off2 ds2 ss2 data = shows (off + a * ss.getD 0 0) (ds.set 0 (ds.getD 0 0 - a)) ss data := by rw [e4, e5, e6]; simp only [rdE, rdL, q2, if_true, and_self]
            obtain ⟨LA, hLA⟩ : ∃ LA, LA = shows off (ds.set 0 a) ss data := ⟨_, rfl⟩
            obtain ⟨LB, hLB⟩ : ∃ LB, LB = shows (off + a * ss.getD 0 0) (ds.set 0 (ds.getD 0 0 - a)) ss data := ⟨_, rfl⟩
            rw [← hLA] at K1 q3
            rw [← hLB] at K2 q3
            rw [← q3] at HC3
            have HK1 := hide K1
            have HK2 := hide K2
            clear p1 p2 o2 e1 e2 e3 e4 e5 e6 hp1 hp2 q1 q2 q3 K1 K2 hLA hLB hr1 hr2
            go_wp2_with fail
            refine HC3.out.mono ?_
            rintro e w4 ⟨l, rfl, ol, hg4⟩
            have OL := hide ol.ints
            have hlen := ol.2.1
            have g24 := grown_trans gF hg4
            obtain ⟨n0, n1, n2, -, -, -⟩ := box_cells (b1.out w4 g24)
            have C5 := read_any off1 ds1 ss1 data _ xv w4 (V1.out.more (grown_trans hg2 g24)) (HX.out.more (grown_trans g0F hg4))
            rw [HK1.out.1, HK1.out.2] at C5
            have HC5 := hide C5
            clear C5 ol
            go_wp2_with fail
            refine HC5.out.mono ?_
            rintro e w5 ⟨x, rfl, ox, hg5⟩
            have OX := hide ox
            have gF5 := grown_trans hg4 hg5
            obtain ⟨n0, n1, n2, -, -, -⟩ := box_cells (HBF.out w5 gF5)
            have C6 := read_any off2 ds2 ss2 data _ xv w5 (HVF.out.more gF5) (HX.out.more (grown_trans g0F gF5))
            rw [HK2.out.1, HK2.out.2] at C6
            have HC6 := hide C6
            clear C6 ox
            go_wp2_with fail
            refine HC6.out.mono ?_
            rintro e w6 ⟨y, rfl, oy, hg6⟩
            have OY := hide oy.ints
            have OX6 := hide (OX.out.new hg6)
            have gF6 := grown_trans gF5 hg6
            have hs46 : w4.heap.size ≤ w6.heap.size := Nat.le_trans hg5.size hg6.size
            rw [List.length_append] at hlen
            clear oy
            go_wp2_with (at_builtin; refine wpList_app64g rfl (.tmp 74) (.tmp 75) rfl w4.heap.size _ LA rfl OX6.out _ LB rfl OY.out ?_ ?_ ?_; omega; omega; intro v' w7 hown7 hg7)
            have O7 := hide hown7.ints
            have g47 := grown_trans_row (grown_trans hg5 hg6) hg7 (fun g hg => (OX6.out.1.lt g hg).1)
            have C7 := samedata_any v' l (LA ++ LB) (LA ++ LB) w7 O7.out (OL.out.more g47)
            rw [decide_eq_true rfl] at C7
            have HC7 := hide C7
            clear C7 hown7 hg7
            go_wp2_with fail
            refine HC7.out.mono ?_
            rintro e w8 ⟨rfl, hg8⟩
            go_wp2_with fail
            refine (vlive_any _).mono ?_
            rintro e w9 ⟨rfl, hg9⟩
            go_wp2
            go_ret
            exact ⟨rfl, grown_below (grown_trans g0F (grown_trans hg4 (grown_trans g47 (grown_trans hg8 hg9))))⟩
          · have t1 := beq_zero_false h2
            have t2 : (E2 != 0) = true := by simp [bne, t1]
            clear h2 hr1 hr2
            go_wp2_with fail
            refine HC3.out.mono ?_
            rintro e w4 ⟨l, rfl, ol, hg4⟩
            clear ol
            go_wp2_with fail
            refine (vlive_any _).mono ?_
            rintro e w9 ⟨rfl, hg9⟩
            go_wp2
            go_ret
            exact ⟨rfl, grown_below (grown_trans g0F (grown_trans hg4 hg9))⟩
        · have t1 := beq_zero_false h1
          have t2 : (E1 != 0) = true := by simp [bne, t1]
          clear h1 hr1 hr2
          go_wp2_with fail
          refine HC3.out.mono ?_
          rintro e w4 ⟨l, rfl, ol, hg4⟩
          clear ol
          go_wp2_with fail
          refine (vlive_any _).mono ?_
          rintro e w9 ⟨rfl, hg9⟩
          go_wp2
          go_ret
          exact ⟨rfl, grown_below (grown_trans g0F (grown_trans hg4 hg9))⟩
      · rw [show rdE off ds ss data = 1 by simp [rdE, h3], show rdL off ds ss data = [] by simp [rdL, h3]] at C3
        have HC3 := hide C3
        clear C3 h3
        by_cases h1 : E1 = 0
        · subst h1
          by_cases h2 : E2 = 0
          · subst h2
            clear hr1 hr2
            go_wp2_with fail
            refine HC3.out.mono ?_
            rintro e w4 ⟨l, rfl, ol, hg4⟩
            clear ol
            go_wp2_with fail
            refine (vlive_any _).mono ?_
            rintro e w9 ⟨rfl, hg9⟩
            go_wp2
            go_ret
            exact ⟨rfl, grown_below (grown_trans g0F (grown_trans hg4 hg9))⟩
          · have t1 := beq_zero_false h2
            have t2 : (E2 != 0) = true := by simp [bne, t1]
            clear h2 hr1 hr2
            go_wp2_with fail
            refine HC3.out.mono ?_
            rintro e w4 ⟨l, rfl, ol, hg4⟩
            clear ol
            go_wp2_with fail
            refine (vlive_any _).mono ?_
            rintro e w9 ⟨rfl, hg9⟩
            go_wp2
            go_ret
            exact ⟨rfl, grown_below (grown_trans g0F (grown_trans hg4 hg9))⟩
        · have t1 := beq_zero_false h1
          have t2 : (E1 != 0) = true := by simp [bne, t1]
          clear h1 hr1 hr2
          go_wp2_with fail
          refine HC3.out.mono ?_
          rintro e w4 ⟨l, rfl, ol, hg4⟩
          clear ol
          go_wp2_with fail
          refine (vlive_any _).mono ?_
          rintro e w9 ⟨rfl, hg9⟩
          go_wp2
          go_ret
          exact ⟨rfl, grown_below (grown_trans g0F (grown_trans hg4 hg9))⟩
end Go.Proofs.Ytfamjlikpoiecac
