/- Joined texts: NChk, NCheck, NRuleB, NRuleC, NRuleD, NRuleAll, NLive. -/
import Derived.Test.YtfladhogkhhlcaaGreatDoorPartK
/- Whether bits are those of a Float, and whether a node's attributes may be, by the walk. -/
namespace Go.Proofs.YtfladhogkhhlcaaGreatDoor
open Go.RowKit

def fOK (f : Int) : Bool := decide (0 ≤ f) && (decide (f < 4294967296) && (f == 2143289344 || decide (bits BinOp.andNot IntKind.i64 f 2147483648 ≤ 2139095040)))

set_option maxRecDepth 100000 in
set_option maxHeartbeats 1600000 in
theorem flt_any (f : Int) (w : World) :
    Calls Tryz.prog 67 #[.int .i64 1, .int .i64 f] w fun e w' => e = .returned (.bool (fOK f)) ∧ w.grownBy w' none := by
  by_cases h0 : 0 ≤ f
  · by_cases h1 : f < 4294967296
    · by_cases h2 : f = 2143289344
      · subst h2
        go_enter Tryz.func67, Tryz.ntmps67
        go_wp2
        go_ret
        exact ⟨rfl, grown_refl _⟩
      · have h3 : (f == 2143289344) = false := by simpa using h2
        have H0 := hide h0
        have H1 := hide h1
        have H3 := hide h3
        go_enter Tryz.func67, Tryz.ntmps67
        go_wp2
        go_ret
        exact ⟨by rw [fOK, decide_eq_true H0.out, decide_eq_true H1.out]; simp [H3.out], grown_refl _⟩
    · have H1 := hide h1
      have H0 := hide h0
      go_enter Tryz.func67, Tryz.ntmps67
      go_wp2
      go_ret
      exact ⟨by rw [fOK, decide_eq_false (show ¬ f < 4294967296 by have := H1.out; omega)]; simp, grown_refl _⟩
  · have H0 := hide h0
    go_enter Tryz.func67, Tryz.ntmps67
    go_wp2
    go_ret
    exact ⟨by rw [fOK, decide_eq_false (show ¬ 0 ≤ f by have := H0.out; omega)]; rfl, grown_refl _⟩

/-- What the attributes from a place on are refused by. -/
def chk1 (rs : List Ra) (xs : List Atr) : List Atr → Nat → Option Int
  | [], _ => none
  | a :: l, i => match rs.find? (sameR a.name) with
    | none => some 5
    | some r => if (a.kind != r.kind) || (xs.take i).any (aheadA a.name) then some 4 else if (a.kind == 1) && !(fOK a.f) then some 4 else chk1 rs xs l (i + 1)

/-- Is one of those that must be there not there? -/
def lacks (rs : List Ra) (xs : List Atr) : Bool := rs.any (fun r => r.must && !(xs.find? (isA r.name r.kind)).isSome)

def attrsE (rs : List Ra) (xs : List Atr) : Int := match chk1 rs xs xs 0 with
  | some e => e
  | none => if lacks rs xs then 4 else 0

theorem chk1_at {rs : List Ra} {xs : List Atr} {k : Nat} (hk : k < xs.length) : chk1 rs xs (xs.drop k) k = match rs.find? (sameR xs[k].name) with
    | none => some 5
    | some r => if (xs[k].kind != r.kind) || (xs.take k).any (aheadA xs[k].name) then some 4 else if (xs[k].kind == 1) && !(fOK xs[k].f) then some 4 else chk1 rs xs (xs.drop (k + 1)) (k + 1) := by
  rw [List.drop_eq_getElem_cons hk, chk1]

theorem isL_take {α : Type} {bytes size : Nat} {f : α → List Value} {w : World} {ao : Option Addr} {len cap : Nat} {xs : List α} (h : IsL bytes size f w (.slice ao len cap) xs) (k : Nat) (hk : k ≤ xs.length) : IsL bytes size f w (.slice ao k cap) (xs.take k) := by
  obtain ⟨ao', cap', e, h1, h2, h3, h4, h5⟩ := h
  cases e
  have hl : (xs.take k).length = k := by rw [List.length_take]; omega
  refine ⟨ao, cap, by rw [hl], by omega, h2, ?_, fun e => ?_, fun hp => ?_⟩
  · rw [hl]; exact Nat.le_trans (Nat.mul_le_mul_right _ hk) h3
  · obtain ⟨rfl, hc⟩ := h4 e
    exact ⟨List.take_nil, hc⟩
  · obtain ⟨b, off, rfl, hc⟩ := h5 (by omega)
    refine ⟨b, off, rfl, fun j hj i hi => ?_⟩
    have hj' : j < xs.length := by omega
    have := hc j hj' i hi
    simpa [List.getElem_take] using this

theorem any_step' {l : List Ra} {f : Ra → Bool} {k : Nat} {x : Ra} (h : (l.take k).any f = false) (hx : l[k]? = some x) (hf : f x = false) : (l.take (k + 1)).any f = false := by
  rw [List.take_add_one, List.any_append, h, hx]
  simp [hf]

theorem attrsE_some {rs : List Ra} {xs : List Atr} {e : Int} (h : chk1 rs xs xs 0 = some e) : attrsE rs xs = e := by unfold attrsE; rw [h]

set_option maxRecDepth 100000 in
set_option maxHeartbeats 6400000 in
theorem checkattrs_any (n : Nod) (xs : List Atr) (rv : Value) (rs : List Ra) (w : World) (hv : IsAttrs w n.av.v xs) (hr : IsRas w rv rs) :
    Calls Tryz.prog 105 #[nval n, rv] w fun e w' => e = .returned (.int .i64 (attrsE rs xs)) ∧ w.grownBy w' none := by
  obtain ⟨op, nam, ⟨ia, il, ic⟩, out, ⟨ao, al, cap⟩⟩ := n
  simp only at hv
  obtain ⟨ao', cap', hav, h1, h2, h3⟩ := hv.form
  obtain ⟨rfl, rfl, rfl⟩ : ao = ao' ∧ al = xs.length ∧ cap = cap' := by simpa [Sl.v] using hav
  have HV := hide hv
  have HR := hide hr
  obtain ⟨ra, rc, rfl, k1, k2, k3⟩ := hr.form
  clear hv hav hr
  unfold nval
  simp only
  obtain ⟨w0, hw0⟩ : ∃ w0, w0 = w.alloc (.cells #[.string op, .string nam, .slice ia il ic, .string out, .slice ao xs.length cap] 36) := ⟨_, rfl⟩
  have g0 : w.grownBy w0 none := by rw [hw0]; exact grown_new _ _
  have hb0 := heap_alloc_new w (.cells #[.string op, .string nam, .slice ia il ic, .string out, .slice ao xs.length cap] 36)
  obtain ⟨-, -, -, -, n4⟩ := nod_cells (n := ⟨op, nam, ⟨ia, il, ic⟩, out, ⟨ao, xs.length, cap⟩⟩) hb0
  rw [← hw0] at hb0
  have BX : Hid (∀ wx, w0.grownBy wx none → wx.heap[w.heap.size]? = some (.cells #[.string op, .string nam, .slice ia il ic, .string out, .slice ao xs.length cap] 36 (0, 0))) := fun wx hg => box_kept hb0 hg
  clear hb0
  go_enter Tryz.func105, Tryz.ntmps105
  go_wp2_with fail
  rw [← hw0]
  clear hw0 n4
  go_loopw [17] (fun i wr => w0.grownBy wr none ∧ ∃ k : Nat, k ≤ xs.length ∧ i = .int .i64 k ∧ chk1 rs xs xs 0 = chk1 rs xs (xs.drop k) k) (fun i _ => xs.length - (intOf i).toNat)
  case atStart => exact ⟨grown_refl _, 0, Nat.zero_le _, rfl, rfl⟩
  case round =>
    obtain ⟨hg, k, hk, rfl, hpl⟩ := hrel
    have HPL := hide hpl
    clear hpl
    by_cases hlt : k < xs.length
    · have HVk := HV.out.more (grown_trans g0 hg)
      obtain ⟨b, off, rfl⟩ := HVk.addr hlt
      obtain ⟨a0, a1, a2, a3, a4, a5, a6, a7, a8⟩ := HVk.attr k hlt
      have HCK := hide (chk1_at (rs := rs) hlt)
      obtain ⟨A, hA⟩ : ∃ A, A = xs[k] := ⟨_, rfl⟩
      rw [← hA] at a0 a1 a2 a3 a4 a5 a6 a7 a8 HCK
      clear HVk hA
      obtain ⟨W1, hW1⟩ : ∃ W1, W1 = wr.alloc (.cells #[.string A.name, .int .i64 A.kind, .int .i64 A.f, .int .i64 A.i, .string A.s, .int .i64 A.ty, .slice A.dv.a A.dv.n A.dv.c, .slice A.tv.a A.tv.n A.tv.c, .slice A.iv.a A.iv.n A.iv.c] 41) := ⟨_, rfl⟩
      have G1 : wr.grownBy W1 none := by rw [hW1]; exact grown_new _ _
      have B1 := heap_alloc_new wr (.cells #[.string A.name, .int .i64 A.kind, .int .i64 A.f, .int .i64 A.i, .string A.s, .int .i64 A.ty, .slice A.dv.a A.dv.n A.dv.c, .slice A.tv.a A.tv.n A.tv.c, .slice A.iv.a A.iv.n A.iv.c] 41)
      rw [← hW1] at B1
      have AB : Hid (∀ wx, W1.grownBy wx none → wx.heap[wr.heap.size]? = some (.cells #[.string A.name, .int .i64 A.kind, .int .i64 A.f, .int .i64 A.i, .string A.s, .int .i64 A.ty, .slice A.dv.a A.dv.n A.dv.c, .slice A.tv.a A.tv.n A.tv.c, .slice A.iv.a A.iv.n A.iv.c] 41 (0, 0))) := fun wx hx => box_kept B1 hx
      have g1 := grown_trans hg G1
      clear B1
      go_wp2_with fail
      rw [← hW1]
      clear hW1 a0 a1 a2 a3 a4 a5 a6 a7 a8
      refine (index_ra _ rs wr.heap.size A.name W1 (HR.out.more (grown_trans g0 g1)) (atr_cells (AB.out W1 (grown_refl _))).1).mono ?_
      rintro e w2 ⟨rfl, hg2⟩
      have g2 := grown_trans g1 hg2
      rcases place_cases (sameR A.name) rs 0 with ⟨e1, e2⟩ | ⟨j, hj, e1, e2⟩
      · rw [e1]
        have E : Hid (attrsE rs xs = 5) := attrsE_some (by rw [HPL.out, HCK.out, e2])
        clear e1 e2
        go_wp2
        go_ret
        exact ⟨by rw [E.out]; rfl, grown_trans g0 g2⟩
      · rw [e1, show ((0 + j : Nat) : Int) = (j : Int) by simp]
        have HE2 := hide e2
        clear e1 e2
        have HRk := HR.out.more (grown_trans g0 g2)
        obtain ⟨rb, ro, rfl⟩ := HRk.addr hj
        obtain ⟨r0, r1, r2⟩ := HRk.ra j hj
        obtain ⟨c0, c1, c2, -⟩ := atr_cells (AB.out w2 hg2)
        obtain ⟨-, -, -, -, n4⟩ := nod_cells (n := ⟨op, nam, ⟨ia, il, ic⟩, out, ⟨some ⟨b, off, none⟩, xs.length, cap⟩⟩) (BX.out w2 g2)
        obtain ⟨R, hR⟩ : ∃ R, R = rs[j] := ⟨_, rfl⟩
        rw [← hR] at r0 r1 r2 HE2
        clear HRk hR r0 r2 c0
        have gd := grown_drew (grown_refl w2)
        have CA := hide (fun (wx : World) (hx : w2.grownBy wx none) => contains_ahead (.slice (some ⟨b, off, none⟩) k cap) (xs.take k) wr.heap.size A.name wx (isL_take (HV.out.more (grown_trans (grown_trans g0 g2) hx)) k (by omega)) (atr_cells (AB.out wx (grown_trans hg2 hx))).1)
        by_cases hkd : (A.kind != R.kind) = true
        · have HKD := hide hkd
          go_wp2_with fail
          have E : Hid (attrsE rs xs = 4) := attrsE_some (by rw [HPL.out, HCK.out, HE2.out]; simp only [HKD.out, Bool.true_or, if_true])
          go_region
          all_goals
            go_wp2
            go_ret
            exact ⟨by rw [E.out]; rfl, grown_drew (grown_trans g0 g2)⟩
        · have hkd' : (A.kind != R.kind) = false := by simpa using hkd
          have HKD := hide hkd'
          clear hkd
          have hkc : k ≤ cap := by omega
          go_wp2_with fail
          go_region_held3 (fun w' => w'.cell? ⟨wr.heap.size, 1, none⟩ = some (.int .i64 A.kind) ∧ w'.cell? ⟨rb, ro + j * 3 + 1, none⟩ = some (.int .i64 R.kind) ∧ w'.cell? ⟨w.heap.size, 4, none⟩ = some (.slice (some ⟨b, off, none⟩) xs.length cap)) (go_keep) (first | (go_at_call 149; refine (CA.out _ (by exact gd)).mono ?_; rintro e w3 ⟨rfl, hg3⟩; have g3 := grown_trans gd hg3; obtain ⟨c0, c1, c2, -⟩ := atr_cells (AB.out w3 (grown_trans hg2 g3)); obtain ⟨-, -, -, -, n4⟩ := nod_cells (n := ⟨op, nam, ⟨ia, il, ic⟩, out, ⟨some ⟨b, off, none⟩, xs.length, cap⟩⟩) (BX.out w3 (grown_trans g2 g3)); have r1 := cell_more r1 g3))
          have g13 := grown_trans g2 g3
          cases hah : (xs.take k).any (aheadA A.name) with
          | true =>
            have E : Hid (attrsE rs xs = 4) := attrsE_some (by rw [HPL.out, HCK.out, HE2.out]; simp only [HKD.out, hah, Bool.or_true, if_true])
            clear hah
            go_wp2
            go_ret
            exact ⟨by rw [E.out]; rfl, grown_trans g0 g13⟩
          | false =>
            have HAH := hide hah
            clear hah
            by_cases hk1 : A.kind = 1
            · have HK1 := hide hk1
              have e1 : (A.kind == 1) = true := by simpa using hk1
              have HE1 := hide e1
              rw [hk1] at c1
              clear hk1 e1
              go_wp2_with fail
              refine (flt_any A.f w3).mono ?_
              rintro e w4 ⟨rfl, hg4⟩
              have g14 := grown_trans g13 hg4
              cases hf : fOK A.f with
              | false =>
                have E : Hid (attrsE rs xs = 4) := attrsE_some (by rw [HPL.out, HCK.out, HE2.out]; simp [HKD.out, HAH.out, HE1.out, hf])
                clear hf
                go_wp2
                go_ret
                exact ⟨by rw [E.out]; rfl, grown_trans g0 g14⟩
              | true =>
                have HN : Hid (chk1 rs xs xs 0 = chk1 rs xs (xs.drop (k + 1)) (k + 1)) := by
                  show _ = _
                  rw [HPL.out, HCK.out, HE2.out]; simp [HKD.out, HAH.out, hf]
                clear hf
                go_wp2
                go_roundw
                case rel => exact ⟨g14, k + 1, by omega, by go_num, HN.out⟩
                case measure => simp [intOf]; omega
            · have e1 : (A.kind == 1) = false := by simpa using hk1
              have HN : Hid (chk1 rs xs xs 0 = chk1 rs xs (xs.drop (k + 1)) (k + 1)) := by
                show _ = _
                rw [HPL.out, HCK.out, HE2.out]; simp [HKD.out, HAH.out, e1]
              clear hk1
              go_wp2
              go_roundw
              case rel => exact ⟨g13, k + 1, by omega, by go_num, HN.out⟩
              case measure => simp [intOf]; omega
    · obtain rfl : k = xs.length := by omega
      have HN : Hid (chk1 rs xs xs 0 = none) := by
        show _ = _
        rw [HPL.out, List.drop_of_length_le (Nat.le_refl _)]; rfl
      obtain ⟨wo, rfl⟩ : ∃ wo, wo = wr := ⟨_, rfl⟩
      go_wp2_with fail
      go_loopw [57] (fun i wr => w0.grownBy wr none ∧ ∃ k : Nat, k ≤ rs.length ∧ i = .int .i64 k ∧ (rs.take k).any (fun r => r.must && !(xs.find? (isA r.name r.kind)).isSome) = false) (fun i _ => rs.length - (intOf i).toNat)
      case atStart => exact ⟨hg, 0, Nat.zero_le _, rfl, rfl⟩
      case round =>
        obtain ⟨hgr, k, hk', rfl, hno⟩ := hrel
        have HNO := hide hno
        clear hno
        by_cases hlt2 : k < rs.length
        · have HRk := HR.out.more (grown_trans g0 hgr)
          obtain ⟨rb, ro, rfl⟩ := HRk.addr hlt2
          obtain ⟨a0, a1, a2⟩ := HRk.ra k hlt2
          have HRK : Hid (rs[k]? = some rs[k]) := List.getElem?_eq_getElem hlt2
          obtain ⟨R, hR⟩ : ∃ R, R = rs[k] := ⟨_, rfl⟩
          rw [← hR] at a0 a1 a2 HRK
          clear HRk hR
          obtain ⟨W1, hW1⟩ : ∃ W1, W1 = wr.alloc (.cells #[.string R.name, .int .i64 R.kind, .bool R.must] 174) := ⟨_, rfl⟩
          have G1 : wr.grownBy W1 none := by rw [hW1]; exact grown_new _ _
          have B1 := heap_alloc_new wr (.cells #[.string R.name, .int .i64 R.kind, .bool R.must] 174)
          have HZ1 : Hid (W1.heap.size = wr.heap.size + 1 ∧ w.heap.size < wr.heap.size) := by
            refine ⟨by rw [hW1]; simp, ?_⟩
            exact (Array.getElem?_eq_some_iff.1 (BX.out wr hgr)).1
          rw [← hW1] at B1
          have RB : Hid (∀ wx, W1.grownBy wx none → wx.heap[wr.heap.size]? = some (.cells #[.string R.name, .int .i64 R.kind, .bool R.must] 174 (0, 0))) := fun wx hx => box_kept B1 hx
          have g1 := grown_trans hgr G1
          have FN := hide (fun (p q : Nat) (wx : World) (hx : W1.grownBy wx none) (hp : wx.heap[p]? = some (.cells #[.string R.name] 9 (0, 0))) (hq : wx.heap[q]? = some (.cells #[.int .i64 R.kind] 3 (0, 0))) => first_named ⟨op, nam, ⟨ia, il, ic⟩, out, ⟨ao, xs.length, cap⟩⟩ xs p q R.name R.kind wx (HV.out.more (grown_trans (grown_trans g0 g1) hx)) hp hq)
          unfold nval at FN
          simp only at FN
          clear B1
          go_wp2
          rw [← hW1]
          clear hW1 a0 a1 a2
          go_cut [13] from 58 to 77 (fun b wx => b = .bool (xs.find? (isA R.name R.kind)).isSome ∧ W1.grownBy wx none)
          case first =>
            obtain ⟨n0, n1, n2, n3, n4⟩ := nod_cells (n := ⟨op, nam, ⟨ia, il, ic⟩, out, ⟨ao, xs.length, cap⟩⟩) (BX.out W1 g1)
            obtain ⟨q0, q1, q2⟩ := ra_cells (RB.out W1 (grown_refl _))
            have gd := grown_drew (grown_refl W1)
            cases hf : xs.find? (isA R.name R.kind) with
            | none =>
              have HF := hide hf
              rw [hf] at FN
              simp only [Option.getD_none, aval, noAtr, Option.isSome_none] at FN ⊢
              go_region_held3 (fun w' => w'.cell? ⟨w.heap.size, 0, none⟩ = some (.string op) ∧ w'.cell? ⟨w.heap.size, 1, none⟩ = some (.string nam) ∧ w'.cell? ⟨w.heap.size, 2, none⟩ = some (.slice ia il ic) ∧ w'.cell? ⟨w.heap.size, 3, none⟩ = some (.string out) ∧ w'.cell? ⟨w.heap.size, 4, none⟩ = some (.slice ao xs.length cap) ∧ w'.cell? ⟨wr.heap.size, 0, none⟩ = some (.string R.name) ∧ w'.cell? ⟨wr.heap.size, 1, none⟩ = some (.int .i64 R.kind) ∧ w'.cell? ⟨wr.heap.size, 2, none⟩ = some (.bool R.must)) (go_keep) (first | (go_at_call 73; refine (named_any _ _ _).mono ?_; rintro e v1 ⟨rfl, hp1, hq1, hg1⟩; have g1_v1 : W1.grownBy v1 none := (by first | exact grown_trans gd hg1 | exact grown_trans (grown_drew (grown_new W1 _)) hg1); obtain ⟨n0, n1, n2, n3, n4⟩ := nod_cells (n := ⟨op, nam, ⟨ia, il, ic⟩, out, ⟨ao, xs.length, cap⟩⟩) (BX.out v1 (grown_trans g1 g1_v1)); obtain ⟨q0, q1, q2⟩ := ra_cells (RB.out v1 g1_v1); have y1 : w.heap.size ≠ v1.heap.size := (by have := g1_v1.size; have := HZ1.out; omega); have y1' := y1.symm; have y2 : wr.heap.size ≠ v1.heap.size := (by have := g1_v1.size; have := HZ1.out; omega); have y2' := y2.symm; have y3 : w.heap.size ≠ W1.heap.size := (by have := HZ1.out; omega); have y3' := y3.symm; have y4 : wr.heap.size ≠ W1.heap.size := (by have := HZ1.out; omega); have y4' := y4.symm; try (have hp2 : v1.heap[W1.heap.size + 1]? = some (.cells #[.string R.name] 9 (0, 0)) := (by have h := hp1; rw [show ((W1.alloc (.cells #[.string ⟨#[]⟩, .int .i64 0, .int .i64 0, .int .i64 0, .string ⟨#[]⟩, .int .i64 0, .slice none 0 0, .slice none 0 0, .slice none 0 0] 41)).drew).heap.size = W1.heap.size + 1 by simp] at h; exact h)); try (have hq2 : v1.heap[W1.heap.size + 1 + 1]? = some (.cells #[.int .i64 R.kind] 3 (0, 0)) := (by have h := hq1; rw [show ((W1.alloc (.cells #[.string ⟨#[]⟩, .int .i64 0, .int .i64 0, .int .i64 0, .string ⟨#[]⟩, .int .i64 0, .slice none 0 0, .slice none 0 0, .slice none 0 0] 41)).drew).heap.size = W1.heap.size + 1 by simp] at h; exact h)); try (have kz : v1.heap[W1.heap.size]? = some (.cells #[.string ⟨#[]⟩, .int .i64 0, .int .i64 0, .int .i64 0, .string ⟨#[]⟩, .int .i64 0, .slice none 0 0, .slice none 0 0, .slice none 0 0] 41 (0, 0)) := box_kept (show ((W1.alloc (.cells #[.string ⟨#[]⟩, .int .i64 0, .int .i64 0, .int .i64 0, .string ⟨#[]⟩, .int .i64 0, .slice none 0 0, .slice none 0 0, .slice none 0 0] 41)).drew).heap[W1.heap.size]? = _ from heap_alloc_new W1 _) hg1)) | (go_at_call 72; refine (FN.out _ _ _ (by first | exact g1_v1 | exact grown_trans g1_v1 (grown_new _ _)) (by first | exact hp1 | exact hp2 | exact box_kept hp1 (grown_new _ _)) (by first | exact hq1 | exact hq2 | exact box_kept hq1 (grown_new _ _))).mono ?_; rintro e v2 ⟨rfl, hg2⟩; have g1_v2 : W1.grownBy v2 none := (by first | exact grown_trans g1_v1 hg2 | exact grown_trans (grown_trans g1_v1 (grown_new _ _)) hg2); obtain ⟨n0, n1, n2, n3, n4⟩ := nod_cells (n := ⟨op, nam, ⟨ia, il, ic⟩, out, ⟨ao, xs.length, cap⟩⟩) (BX.out v2 (grown_trans g1 g1_v2)); obtain ⟨q0, q1, q2⟩ := ra_cells (RB.out v2 g1_v2); try (first | have kz2 := box_kept kz hg2 | have kz2 : v2.heap[v1.heap.size]? = some (.cells #[.string ⟨#[]⟩, .int .i64 0, .int .i64 0, .int .i64 0, .string ⟨#[]⟩, .int .i64 0, .slice none 0 0, .slice none 0 0, .slice none 0 0] 41 (0, 0)) := box_kept (heap_alloc_new v1 _) hg2); try (obtain ⟨f0, f1, f2, f3, f4, f5, f6, f7, f8⟩ := atr_frozen kz2); try (obtain ⟨k0, k1, k2, k3, k4, k5, k6, k7, k8⟩ := atr_cells (a := noAtr) kz2)))
              · have GG := hide g1_v2
                go_wp2_with fail
                go_meet
                exact ⟨by rw [HF.out]; rfl, grown_trans GG.out (grown_new v2 _)⟩
              · obtain ⟨-, gX⟩ := store9 (.string ⟨#[]⟩) (.int .i64 0) (.int .i64 0) (.int .i64 0) (.string ⟨#[]⟩) (.int .i64 0) (.slice none 0 0) (.slice none 0 0) (.slice none 0 0) g1_v2 (show W1.heap.size ≤ v1.heap.size from g1_v1.size) kz2
                have GX := hide gX
                clear gX
                go_wp2_with fail
                go_meet
                exact ⟨by rw [HF.out]; rfl, GX.out⟩
              · obtain ⟨-, gX⟩ := store9 (.string ⟨#[]⟩) (.int .i64 0) (.int .i64 0) (.int .i64 0) (.string ⟨#[]⟩) (.int .i64 0) (.slice none 0 0) (.slice none 0 0) (.slice none 0 0) g1_v2 (Nat.le_refl _) kz2
                have GX := hide gX
                clear gX
                go_wp2_with fail
                go_meet
                exact ⟨by rw [HF.out]; rfl, GX.out⟩
            | some a =>
              have HF := hide hf
              rw [hf] at FN
              simp only [Option.getD_some, aval, Option.isSome_some] at FN ⊢
              go_region_held3 (fun w' => w'.cell? ⟨w.heap.size, 0, none⟩ = some (.string op) ∧ w'.cell? ⟨w.heap.size, 1, none⟩ = some (.string nam) ∧ w'.cell? ⟨w.heap.size, 2, none⟩ = some (.slice ia il ic) ∧ w'.cell? ⟨w.heap.size, 3, none⟩ = some (.string out) ∧ w'.cell? ⟨w.heap.size, 4, none⟩ = some (.slice ao xs.length cap) ∧ w'.cell? ⟨wr.heap.size, 0, none⟩ = some (.string R.name) ∧ w'.cell? ⟨wr.heap.size, 1, none⟩ = some (.int .i64 R.kind) ∧ w'.cell? ⟨wr.heap.size, 2, none⟩ = some (.bool R.must)) (go_keep) (first | (go_at_call 73; refine (named_any _ _ _).mono ?_; rintro e v1 ⟨rfl, hp1, hq1, hg1⟩; have g1_v1 : W1.grownBy v1 none := (by first | exact grown_trans gd hg1 | exact grown_trans (grown_drew (grown_new W1 _)) hg1); obtain ⟨n0, n1, n2, n3, n4⟩ := nod_cells (n := ⟨op, nam, ⟨ia, il, ic⟩, out, ⟨ao, xs.length, cap⟩⟩) (BX.out v1 (grown_trans g1 g1_v1)); obtain ⟨q0, q1, q2⟩ := ra_cells (RB.out v1 g1_v1); have y1 : w.heap.size ≠ v1.heap.size := (by have := g1_v1.size; have := HZ1.out; omega); have y1' := y1.symm; have y2 : wr.heap.size ≠ v1.heap.size := (by have := g1_v1.size; have := HZ1.out; omega); have y2' := y2.symm; have y3 : w.heap.size ≠ W1.heap.size := (by have := HZ1.out; omega); have y3' := y3.symm; have y4 : wr.heap.size ≠ W1.heap.size := (by have := HZ1.out; omega); have y4' := y4.symm; try (have hp2 : v1.heap[W1.heap.size + 1]? = some (.cells #[.string R.name] 9 (0, 0)) := (by have h := hp1; rw [show ((W1.alloc (.cells #[.string ⟨#[]⟩, .int .i64 0, .int .i64 0, .int .i64 0, .string ⟨#[]⟩, .int .i64 0, .slice none 0 0, .slice none 0 0, .slice none 0 0] 41)).drew).heap.size = W1.heap.size + 1 by simp] at h; exact h)); try (have hq2 : v1.heap[W1.heap.size + 1 + 1]? = some (.cells #[.int .i64 R.kind] 3 (0, 0)) := (by have h := hq1; rw [show ((W1.alloc (.cells #[.string ⟨#[]⟩, .int .i64 0, .int .i64 0, .int .i64 0, .string ⟨#[]⟩, .int .i64 0, .slice none 0 0, .slice none 0 0, .slice none 0 0] 41)).drew).heap.size = W1.heap.size + 1 by simp] at h; exact h)); try (have kz : v1.heap[W1.heap.size]? = some (.cells #[.string ⟨#[]⟩, .int .i64 0, .int .i64 0, .int .i64 0, .string ⟨#[]⟩, .int .i64 0, .slice none 0 0, .slice none 0 0, .slice none 0 0] 41 (0, 0)) := box_kept (show ((W1.alloc (.cells #[.string ⟨#[]⟩, .int .i64 0, .int .i64 0, .int .i64 0, .string ⟨#[]⟩, .int .i64 0, .slice none 0 0, .slice none 0 0, .slice none 0 0] 41)).drew).heap[W1.heap.size]? = _ from heap_alloc_new W1 _) hg1)) | (go_at_call 72; refine (FN.out _ _ _ (by first | exact g1_v1 | exact grown_trans g1_v1 (grown_new _ _)) (by first | exact hp1 | exact hp2 | exact box_kept hp1 (grown_new _ _)) (by first | exact hq1 | exact hq2 | exact box_kept hq1 (grown_new _ _))).mono ?_; rintro e v2 ⟨rfl, hg2⟩; have g1_v2 : W1.grownBy v2 none := (by first | exact grown_trans g1_v1 hg2 | exact grown_trans (grown_trans g1_v1 (grown_new _ _)) hg2); obtain ⟨n0, n1, n2, n3, n4⟩ := nod_cells (n := ⟨op, nam, ⟨ia, il, ic⟩, out, ⟨ao, xs.length, cap⟩⟩) (BX.out v2 (grown_trans g1 g1_v2)); obtain ⟨q0, q1, q2⟩ := ra_cells (RB.out v2 g1_v2); try (first | have kz2 := box_kept kz hg2 | have kz2 : v2.heap[v1.heap.size]? = some (.cells #[.string ⟨#[]⟩, .int .i64 0, .int .i64 0, .int .i64 0, .string ⟨#[]⟩, .int .i64 0, .slice none 0 0, .slice none 0 0, .slice none 0 0] 41 (0, 0)) := box_kept (heap_alloc_new v1 _) hg2); try (obtain ⟨f0, f1, f2, f3, f4, f5, f6, f7, f8⟩ := atr_frozen kz2); try (obtain ⟨k0, k1, k2, k3, k4, k5, k6, k7, k8⟩ := atr_cells (a := noAtr) kz2)))
              · have GG := hide g1_v2
                go_wp2_with fail
                go_meet
                exact ⟨by rw [HF.out]; rfl, grown_trans GG.out (grown_new v2 _)⟩
              · obtain ⟨-, gX⟩ := store9 (.string a.name) (.int .i64 a.kind) (.int .i64 a.f) (.int .i64 a.i) (.string a.s) (.int .i64 a.ty) (.slice a.dv.a a.dv.n a.dv.c) (.slice a.tv.a a.tv.n a.tv.c) (.slice a.iv.a a.iv.n a.iv.c) g1_v2 (show W1.heap.size ≤ v1.heap.size from g1_v1.size) kz2
                have GX := hide gX
                clear gX
                go_wp2_with fail
                go_meet
                exact ⟨by rw [HF.out]; rfl, GX.out⟩
              · obtain ⟨-, gX⟩ := store9 (.string a.name) (.int .i64 a.kind) (.int .i64 a.f) (.int .i64 a.i) (.string a.s) (.int .i64 a.ty) (.slice a.dv.a a.dv.n a.dv.c) (.slice a.tv.a a.tv.n a.tv.c) (.slice a.iv.a a.iv.n a.iv.c) g1_v2 (Nat.le_refl _) kz2
                have GX := hide gX
                clear gX
                go_wp2_with fail
                go_meet
                exact ⟨by rw [HF.out]; rfl, GX.out⟩
          case rest =>
            obtain ⟨rfl, hgc⟩ := hcut
            obtain ⟨q0, q1, q2⟩ := ra_cells (RB.out wc hgc)
            have gc := grown_trans g1 hgc
            cases hm : R.must with
            | false =>
              have HS : Hid ((rs.take (k + 1)).any (fun r => r.must && !(xs.find? (isA r.name r.kind)).isSome) = false) := any_step' HNO.out HRK.out (by simp [hm])
              rw [hm] at q2
              go_wp2
              go_roundw
              case rel => exact ⟨gc, k + 1, by omega, by go_num, HS.out⟩
              case measure => simp [intOf]; omega
            | true =>
              rw [hm] at q2
              cases hs : (xs.find? (isA R.name R.kind)).isSome with
              | true =>
                have HS : Hid ((rs.take (k + 1)).any (fun r => r.must && !(xs.find? (isA r.name r.kind)).isSome) = false) := any_step' HNO.out HRK.out (by simp [hs])
                clear hs
                go_wp2
                go_roundw
                case rel => exact ⟨gc, k + 1, by omega, by go_num, HS.out⟩
                case measure => simp [intOf]; omega
              | false =>
                have E : Hid (attrsE rs xs = 4) := by
                  show _ = _
                  have h1 : lacks rs xs = true := List.any_eq_true.2 ⟨R, List.mem_of_getElem? HRK.out, by simp only [hm, hs]; rfl⟩
                  unfold attrsE
                  rw [HN.out]
                  simp [h1]
                clear hs
                go_wp2
                go_ret
                exact ⟨by rw [E.out]; rfl, grown_trans g0 gc⟩
        · obtain rfl : k = rs.length := by omega
          have E : Hid (attrsE rs xs = 0) := by
            show _ = _
            have h1 := HNO.out
            rw [List.take_of_length_le (Nat.le_refl _)] at h1
            unfold attrsE lacks
            rw [HN.out]
            simp only [h1]
            rfl
          go_wp2
          go_ret
          exact ⟨by rw [E.out]; rfl, grown_trans g0 hgr⟩
end Go.Proofs.YtfladhogkhhlcaaGreatDoor

/- Whether a node may be, by the walk. -/
namespace Go.Proofs.YtfladhogkhhlcaaGreatDoor
open Go.RowKit

/-- What Check answers of a node that is no Constant. -/
def checkE (r : Option (Int × Int × List Ra)) (ins : List ByteArray) (out : ByteArray) (xs : List Atr) : Int := match r with
  | none => 5
  | some (lo, hi, rs) => if (ins.length : Int) < lo then 4 else if hi < (ins.length : Int) then 4 else if (out.toList == []) || ins.any (isS ⟨#[]⟩) then 5 else if attrsE rs xs = 0 then thenE (xs.find? (isA ⟨#[116, 104, 101, 110]⟩ 3)) else attrsE rs xs

set_option maxRecDepth 100000 in
set_option maxHeartbeats 6400000 in
theorem check_of (n : Nod) (xs : List Atr) (ins : List ByteArray) (r : Option (Int × Int × List Ra)) (w : World) (hl : Laid w) (hin : IsStrs w n.iv.v ins) (hv : IsAttrs w n.av.v xs) (hsz : ∀ a ∈ xs, a.s.size ≤ 4294967296)
    (hrule : ∀ wx, Laid wx → Calls Tryz.prog 103 #[.string n.op] wx fun e w' => Ruled r w' e ∧ wx.grownBy w' none) (hrs : ∀ lo hi rs, r = some (lo, hi, rs) → rs.length ≤ 20) (hop : (n.op.toList == [67, 111, 110, 115, 116, 97, 110, 116]) = false) :
    Calls Tryz.prog 86 #[nval n] w fun e w' => e = .returned (.int .i64 (checkE r ins n.out xs)) ∧ w.grownBy w' none := by
  have TH := hide (fun (wx : World) (hx : w.grownBy wx none) => then_any n xs wx (hl.more hx) (hv.more hx) hsz)
  have CA := hide (fun (rv : Value) (rs : List Ra) (wx : World) (hx : w.grownBy wx none) (hr : IsRas wx rv rs) => checkattrs_any n xs rv rs wx (hv.more hx) hr)
  have CS := hide (fun (wx : World) (hx : w.grownBy wx none) => contains_str n.iv.v ins ⟨#[]⟩ wx (hin.more hx))
  have RU := hide (fun (wx : World) (hx : w.grownBy wx none) => hrule wx (hl.more hx))
  obtain ⟨op, nam, ⟨ia, il, ic⟩, out, ⟨ao, al, cap⟩⟩ := n
  obtain ⟨ia', ic', hiv, i1, i2, i3⟩ := hin.form
  obtain ⟨rfl, rfl, rfl⟩ : ia = ia' ∧ il = ins.length ∧ ic = ic' := by simpa [Sl.v] using hiv
  unfold nval at TH CA ⊢
  simp only [Sl.v] at TH CA CS RU hop ⊢
  clear hl hin hv hsz hrule hiv
  obtain ⟨w0, hw0⟩ : ∃ w0, w0 = w.alloc (.cells #[.string op, .string nam, .slice ia ins.length ic, .string out, .slice ao al cap] 36) := ⟨_, rfl⟩
  have g0 : w.grownBy w0 none := by rw [hw0]; exact grown_new _ _
  have hb0 := heap_alloc_new w (.cells #[.string op, .string nam, .slice ia ins.length ic, .string out, .slice ao al cap] 36)
  obtain ⟨n0, -⟩ := nod_cells (n := ⟨op, nam, ⟨ia, ins.length, ic⟩, out, ⟨ao, al, cap⟩⟩) hb0
  rw [← hw0] at hb0
  have BX : Hid (∀ wx, w0.grownBy wx none → wx.heap[w.heap.size]? = some (.cells #[.string op, .string nam, .slice ia ins.length ic, .string out, .slice ao al cap] 36 (0, 0))) := fun wx hg => box_kept hb0 hg
  clear hb0
  go_enter Tryz.func86, Tryz.ntmps86
  go_wp2_with fail
  rw [← hw0]
  clear hw0 n0
  refine (RU.out w0 g0).mono ?_
  rintro e w1 ⟨hru, hg1⟩
  have g1 := grown_trans g0 hg1
  rcases hr : r with _ | ⟨lo, hi, rs⟩
  · rw [hr] at hru
    have hru : e = .returned (.tuple #[.agg #[.int .i64 0, .int .i64 0, .slice none 0 0], .bool false]) := hru
    subst hru
    have E : Hid (checkE r ins out xs = 5) := by show _ = _; rw [hr]; rfl
    clear hr hrs
    go_wp2
    go_ret
    exact ⟨by rw [E.out]; rfl, grown_trans g1 (grown_new _ _)⟩
  · rw [hr] at hru
    obtain ⟨a, nn, c, rfl, ho⟩ := hru
    have hrl : rs.length ≤ 20 := hrs lo hi rs hr
    have HC0 : Hid (checkE r ins out xs = if (ins.length : Int) < lo then 4 else if hi < (ins.length : Int) then 4 else if (out.toList == []) || ins.any (isS ⟨#[]⟩) then 5 else if attrsE rs xs = 0 then thenE (xs.find? (isA ⟨#[116, 104, 101, 110]⟩ 3)) else attrsE rs xs) := by show _ = _; rw [hr]; rfl
    clear hr
    obtain ⟨W1, hW1⟩ : ∃ W1, W1 = w1.alloc (.cells #[.int .i64 lo, .int .i64 hi, .slice a nn c] 146) := ⟨_, rfl⟩
    have G1 : w1.grownBy W1 none := by rw [hW1]; exact grown_new _ _
    have B1 := heap_alloc_new w1 (.cells #[.int .i64 lo, .int .i64 hi, .slice a nn c] 146)
    obtain ⟨z0, z1, z2, -⟩ := rule_cells B1
    have IR := hide (ho.isL (bytes := 32) rcells_len (by omega))
    have g2 := grown_trans g1 G1
    have g02 := grown_trans hg1 G1
    obtain ⟨n0, n1, n2, n3, n4⟩ := nod_cells (n := ⟨op, nam, ⟨ia, ins.length, ic⟩, out, ⟨ao, al, cap⟩⟩) (BX.out W1 g02)
    have RB : Hid (∀ wx, W1.grownBy wx none → wx.heap[w1.heap.size]? = some (.cells #[.int .i64 lo, .int .i64 hi, .slice a nn c] 146 (0, 0))) := fun wx hg => box_kept (by rw [hW1]; exact B1) hg
    rw [hW1] at n0 n1 n2 n3 n4
    clear B1 hrs ho
    by_cases h4 : (ins.length : Int) < lo
    · have E : Hid (checkE r ins out xs = 4) := by show _ = _; rw [HC0.out, if_pos h4]
      go_wp2
      rw [← hW1]
      go_ret
      exact ⟨by rw [E.out]; rfl, g2⟩
    · by_cases h5 : hi < (ins.length : Int)
      · have E : Hid (checkE r ins out xs = 4) := by show _ = _; rw [HC0.out, if_neg h4, if_pos h5]
        go_wp2
        rw [← hW1]
        go_ret
        exact ⟨by rw [E.out]; rfl, g2⟩
      · have HC1 : Hid (checkE r ins out xs = if (out.toList == []) || ins.any (isS ⟨#[]⟩) then 5 else if attrsE rs xs = 0 then thenE (xs.find? (isA ⟨#[116, 104, 101, 110]⟩ 3)) else attrsE rs xs) := by show _ = _; rw [HC0.out, if_neg h4, if_neg h5]
        by_cases ho6 : (out.toList == []) = true
        · have E : Hid (checkE r ins out xs = 5) := by show _ = _; rw [HC1.out, ho6]; rfl
          go_wp2
          rw [← hW1]
          go_ret
          exact ⟨by rw [E.out]; rfl, g2⟩
        · have ho7 : (out.toList == []) = false := by simpa using ho6
          have HO7 := hide ho7
          clear ho6
          go_wp2_with fail
          rw [← hW1]
          clear hW1 z0 z1 z2 n0 n1 n2 n3 n4
          refine (CS.out W1 g2).mono ?_
          rintro e w3 ⟨rfl, hg3⟩
          have g3 := grown_trans g2 hg3
          obtain ⟨z0, z1, z2, -⟩ := rule_cells (RB.out w3 hg3)
          obtain ⟨n0, n1, n2, n3, n4⟩ := nod_cells (n := ⟨op, nam, ⟨ia, ins.length, ic⟩, out, ⟨ao, al, cap⟩⟩) (BX.out w3 (grown_trans g02 hg3))
          cases hany : ins.any (isS ⟨#[]⟩) with
          | true =>
            have E : Hid (checkE r ins out xs = 5) := by show _ = _; rw [HC1.out, hany, Bool.or_true]; rfl
            clear hany
            go_wp2
            go_ret
            exact ⟨by rw [E.out]; rfl, g3⟩
          | false =>
            have HC2 : Hid (checkE r ins out xs = if attrsE rs xs = 0 then thenE (xs.find? (isA ⟨#[116, 104, 101, 110]⟩ 3)) else attrsE rs xs) := by show _ = _; rw [HC1.out, hany, HO7.out]; rfl
            clear hany
            go_wp2_with fail
            refine (CA.out _ rs w3 g3 (IR.out.more (grown_trans G1 hg3))).mono ?_
            rintro e w4 ⟨rfl, hg4⟩
            have g4 := grown_trans g3 hg4
            clear z0 z1 z2 n0 n1 n2 n3 n4
            obtain ⟨n0, n1, n2, n3, n4⟩ := nod_cells (n := ⟨op, nam, ⟨ia, ins.length, ic⟩, out, ⟨ao, al, cap⟩⟩) (BX.out w4 (grown_trans (grown_trans g02 hg3) hg4))
            obtain ⟨X, hX⟩ : ∃ X, X = attrsE rs xs := ⟨_, rfl⟩
            rw [← hX] at HC2
            rw [← hX]
            clear hX
            by_cases h0 : X = 0
            · subst h0
              have HC3 : Hid (checkE r ins out xs = thenE (xs.find? (isA ⟨#[116, 104, 101, 110]⟩ 3))) := by show _ = _; rw [HC2.out]; rfl
              go_wp2_with fail
              refine (TH.out w4 g4).mono ?_
              rintro e w5 ⟨v, rfl, ho5, hg5⟩
              have g5 := grown_trans g4 hg5
              obtain ⟨va, vc, rfl⟩ := OwnsL.form ho5
              clear n0 n1 n2 n3 n4 ho5
              obtain ⟨n0, n1, n2, n3, n4⟩ := nod_cells (n := ⟨op, nam, ⟨ia, ins.length, ic⟩, out, ⟨ao, al, cap⟩⟩) (BX.out w5 (grown_trans (grown_trans (grown_trans g02 hg3) hg4) hg5))
              obtain ⟨Y, hY⟩ : ∃ Y, Y = thenE (xs.find? (isA ⟨#[116, 104, 101, 110]⟩ 3)) := ⟨_, rfl⟩
              rw [← hY] at HC3
              rw [← hY]
              clear hY
              by_cases h1 : Y = 0
              · subst h1
                go_wp2
                go_ret
                exact ⟨by rw [HC3.out]; rfl, g5⟩
              · have h2 : (Y == 0) = false := by simpa using h1
                have h3' : (Y != 0) = true := by simp [bne, h2]
                clear h1
                go_wp2
                go_ret
                exact ⟨by rw [HC3.out]; rfl, g5⟩
            · have E : Hid (checkE r ins out xs = X) := by show _ = _; rw [HC2.out, if_neg h0]
              have h2 : (X == 0) = false := by simpa using h0
              have h3' : (X != 0) = true := by simp [bne, h2]
              clear h0
              go_wp2
              go_ret
              exact ⟨by rw [E.out]; rfl, g4⟩
end Go.Proofs.YtfladhogkhhlcaaGreatDoor

/- What an operator takes, operator by operator (mkRule.py). -/
namespace Go.Proofs.YtfladhogkhhlcaaGreatDoor
open Go.RowKit

set_option maxRecDepth 100000 in
set_option maxHeartbeats 1600000 in
theorem rule_Identity (w : World) (hl : Laid w) :
    Calls Tryz.prog 103 #[.string ⟨#[73, 100, 101, 110, 116, 105, 116, 121]⟩] w fun e w' => Ruled (some (1, 1, [thenRa])) w' e ∧ w.grownBy w' none := by
  have e1 : isOne ⟨#[73, 100, 101, 110, 116, 105, 116, 121]⟩ = true := by simp only [isOne, bytes_toList]; rfl
  obtain ⟨w0, hw0⟩ : ∃ w0, w0 = w.alloc (.cells #[.int .i64 0, .int .i64 0, .slice none 0 0] 146) := ⟨_, rfl⟩
  have g0 : w.grownBy w0 none := by rw [hw0]; exact grown_new _ _
  have b0 := heap_alloc_new w (.cells #[.int .i64 0, .int .i64 0, .slice none 0 0] 146)
  rw [← hw0] at b0
  have B0 := hide b0
  have OO := hide (ofone_any ⟨#[73, 100, 101, 110, 116, 105, 116, 121]⟩ w0 (hl.more g0))
  rw [e1] at OO
  clear hl b0 e1
  go_enter Tryz.func103, Tryz.ntmps103
  go_wp2_with fail
  rw [← hw0]
  clear hw0
  refine OO.out.mono ?_
  rintro e v0 ⟨rfl, h0⟩
  go_wp2_with fail
  refine (takes_any _ _ _ [] _ (Or.inl ⟨rfl, rfl⟩) (by decide)).mono ?_
  rintro e w6 ⟨⟨a, n, c, rfl, ho, hat⟩, hg6⟩
  have hlt := (Array.getElem?_eq_some_iff.1 B0.out).1
  have hsk := h0.size
  have hne : (Value.slice a n c).ownBlock ≠ some w.heap.size := fun hh => by
    rcases hat _ hh with h | h
    · cases h
    · omega
  obtain ⟨b6, hX, hO, gX⟩ := rule_put (lo := 1) (hi := 1) g0 B0.out h0 (grown_refl _) hg6 (fun g e => by cases e) ho hne
  obtain ⟨r0, r1, r2, f0, f1, f2⟩ := rule_cells b6
  have HX := hide hX
  have HO := hide hO
  have GX := hide gX
  clear hX hO gX b6 ho hg6 hne hat hlt hsk
  go_wp2
  refine bodyPost_ret (ret_rule2 rfl _ _ w.heap.size rfl HX.out) rfl ?_
  exact ⟨⟨_, _, _, rfl, HO.out⟩, GX.out⟩

set_option maxRecDepth 100000 in
set_option maxHeartbeats 1600000 in
theorem rule_Neg (w : World) (hl : Laid w) :
    Calls Tryz.prog 103 #[.string ⟨#[78, 101, 103]⟩] w fun e w' => Ruled (some (1, 1, [thenRa])) w' e ∧ w.grownBy w' none := by
  have e1 : isOne ⟨#[78, 101, 103]⟩ = true := by simp only [isOne, bytes_toList]; rfl
  obtain ⟨w0, hw0⟩ : ∃ w0, w0 = w.alloc (.cells #[.int .i64 0, .int .i64 0, .slice none 0 0] 146) := ⟨_, rfl⟩
  have g0 : w.grownBy w0 none := by rw [hw0]; exact grown_new _ _
  have b0 := heap_alloc_new w (.cells #[.int .i64 0, .int .i64 0, .slice none 0 0] 146)
  rw [← hw0] at b0
  have B0 := hide b0
  have OO := hide (ofone_any ⟨#[78, 101, 103]⟩ w0 (hl.more g0))
  rw [e1] at OO
  clear hl b0 e1
  go_enter Tryz.func103, Tryz.ntmps103
  go_wp2_with fail
  rw [← hw0]
  clear hw0
  refine OO.out.mono ?_
  rintro e v0 ⟨rfl, h0⟩
  go_wp2_with fail
  refine (takes_any _ _ _ [] _ (Or.inl ⟨rfl, rfl⟩) (by decide)).mono ?_
  rintro e w6 ⟨⟨a, n, c, rfl, ho, hat⟩, hg6⟩
  have hlt := (Array.getElem?_eq_some_iff.1 B0.out).1
  have hsk := h0.size
  have hne : (Value.slice a n c).ownBlock ≠ some w.heap.size := fun hh => by
    rcases hat _ hh with h | h
    · cases h
    · omega
  obtain ⟨b6, hX, hO, gX⟩ := rule_put (lo := 1) (hi := 1) g0 B0.out h0 (grown_refl _) hg6 (fun g e => by cases e) ho hne
  obtain ⟨r0, r1, r2, f0, f1, f2⟩ := rule_cells b6
  have HX := hide hX
  have HO := hide hO
  have GX := hide gX
  clear hX hO gX b6 ho hg6 hne hat hlt hsk
  go_wp2
  refine bodyPost_ret (ret_rule2 rfl _ _ w.heap.size rfl HX.out) rfl ?_
  exact ⟨⟨_, _, _, rfl, HO.out⟩, GX.out⟩

set_option maxRecDepth 100000 in
set_option maxHeartbeats 1600000 in
theorem rule_Abs (w : World) (hl : Laid w) :
    Calls Tryz.prog 103 #[.string ⟨#[65, 98, 115]⟩] w fun e w' => Ruled (some (1, 1, [thenRa])) w' e ∧ w.grownBy w' none := by
  have e1 : isOne ⟨#[65, 98, 115]⟩ = true := by simp only [isOne, bytes_toList]; rfl
  obtain ⟨w0, hw0⟩ : ∃ w0, w0 = w.alloc (.cells #[.int .i64 0, .int .i64 0, .slice none 0 0] 146) := ⟨_, rfl⟩
  have g0 : w.grownBy w0 none := by rw [hw0]; exact grown_new _ _
  have b0 := heap_alloc_new w (.cells #[.int .i64 0, .int .i64 0, .slice none 0 0] 146)
  rw [← hw0] at b0
  have B0 := hide b0
  have OO := hide (ofone_any ⟨#[65, 98, 115]⟩ w0 (hl.more g0))
  rw [e1] at OO
  clear hl b0 e1
  go_enter Tryz.func103, Tryz.ntmps103
  go_wp2_with fail
  rw [← hw0]
  clear hw0
  refine OO.out.mono ?_
  rintro e v0 ⟨rfl, h0⟩
  go_wp2_with fail
  refine (takes_any _ _ _ [] _ (Or.inl ⟨rfl, rfl⟩) (by decide)).mono ?_
  rintro e w6 ⟨⟨a, n, c, rfl, ho, hat⟩, hg6⟩
  have hlt := (Array.getElem?_eq_some_iff.1 B0.out).1
  have hsk := h0.size
  have hne : (Value.slice a n c).ownBlock ≠ some w.heap.size := fun hh => by
    rcases hat _ hh with h | h
    · cases h
    · omega
  obtain ⟨b6, hX, hO, gX⟩ := rule_put (lo := 1) (hi := 1) g0 B0.out h0 (grown_refl _) hg6 (fun g e => by cases e) ho hne
  obtain ⟨r0, r1, r2, f0, f1, f2⟩ := rule_cells b6
  have HX := hide hX
  have HO := hide hO
  have GX := hide gX
  clear hX hO gX b6 ho hg6 hne hat hlt hsk
  go_wp2
  refine bodyPost_ret (ret_rule2 rfl _ _ w.heap.size rfl HX.out) rfl ?_
  exact ⟨⟨_, _, _, rfl, HO.out⟩, GX.out⟩

set_option maxRecDepth 100000 in
set_option maxHeartbeats 1600000 in
theorem rule_Not (w : World) (hl : Laid w) :
    Calls Tryz.prog 103 #[.string ⟨#[78, 111, 116]⟩] w fun e w' => Ruled (some (1, 1, [thenRa])) w' e ∧ w.grownBy w' none := by
  have e1 : isOne ⟨#[78, 111, 116]⟩ = true := by simp only [isOne, bytes_toList]; rfl
  obtain ⟨w0, hw0⟩ : ∃ w0, w0 = w.alloc (.cells #[.int .i64 0, .int .i64 0, .slice none 0 0] 146) := ⟨_, rfl⟩
  have g0 : w.grownBy w0 none := by rw [hw0]; exact grown_new _ _
  have b0 := heap_alloc_new w (.cells #[.int .i64 0, .int .i64 0, .slice none 0 0] 146)
  rw [← hw0] at b0
  have B0 := hide b0
  have OO := hide (ofone_any ⟨#[78, 111, 116]⟩ w0 (hl.more g0))
  rw [e1] at OO
  clear hl b0 e1
  go_enter Tryz.func103, Tryz.ntmps103
  go_wp2_with fail
  rw [← hw0]
  clear hw0
  refine OO.out.mono ?_
  rintro e v0 ⟨rfl, h0⟩
  go_wp2_with fail
  refine (takes_any _ _ _ [] _ (Or.inl ⟨rfl, rfl⟩) (by decide)).mono ?_
  rintro e w6 ⟨⟨a, n, c, rfl, ho, hat⟩, hg6⟩
  have hlt := (Array.getElem?_eq_some_iff.1 B0.out).1
  have hsk := h0.size
  have hne : (Value.slice a n c).ownBlock ≠ some w.heap.size := fun hh => by
    rcases hat _ hh with h | h
    · cases h
    · omega
  obtain ⟨b6, hX, hO, gX⟩ := rule_put (lo := 1) (hi := 1) g0 B0.out h0 (grown_refl _) hg6 (fun g e => by cases e) ho hne
  obtain ⟨r0, r1, r2, f0, f1, f2⟩ := rule_cells b6
  have HX := hide hX
  have HO := hide hO
  have GX := hide gX
  clear hX hO gX b6 ho hg6 hne hat hlt hsk
  go_wp2
  refine bodyPost_ret (ret_rule2 rfl _ _ w.heap.size rfl HX.out) rfl ?_
  exact ⟨⟨_, _, _, rfl, HO.out⟩, GX.out⟩

set_option maxRecDepth 100000 in
set_option maxHeartbeats 1600000 in
theorem rule_Sqrt (w : World) (hl : Laid w) :
    Calls Tryz.prog 103 #[.string ⟨#[83, 113, 114, 116]⟩] w fun e w' => Ruled (some (1, 1, [thenRa])) w' e ∧ w.grownBy w' none := by
  have e1 : isOne ⟨#[83, 113, 114, 116]⟩ = true := by simp only [isOne, bytes_toList]; rfl
  obtain ⟨w0, hw0⟩ : ∃ w0, w0 = w.alloc (.cells #[.int .i64 0, .int .i64 0, .slice none 0 0] 146) := ⟨_, rfl⟩
  have g0 : w.grownBy w0 none := by rw [hw0]; exact grown_new _ _
  have b0 := heap_alloc_new w (.cells #[.int .i64 0, .int .i64 0, .slice none 0 0] 146)
  rw [← hw0] at b0
  have B0 := hide b0
  have OO := hide (ofone_any ⟨#[83, 113, 114, 116]⟩ w0 (hl.more g0))
  rw [e1] at OO
  clear hl b0 e1
  go_enter Tryz.func103, Tryz.ntmps103
  go_wp2_with fail
  rw [← hw0]
  clear hw0
  refine OO.out.mono ?_
  rintro e v0 ⟨rfl, h0⟩
  go_wp2_with fail
  refine (takes_any _ _ _ [] _ (Or.inl ⟨rfl, rfl⟩) (by decide)).mono ?_
  rintro e w6 ⟨⟨a, n, c, rfl, ho, hat⟩, hg6⟩
  have hlt := (Array.getElem?_eq_some_iff.1 B0.out).1
  have hsk := h0.size
  have hne : (Value.slice a n c).ownBlock ≠ some w.heap.size := fun hh => by
    rcases hat _ hh with h | h
    · cases h
    · omega
  obtain ⟨b6, hX, hO, gX⟩ := rule_put (lo := 1) (hi := 1) g0 B0.out h0 (grown_refl _) hg6 (fun g e => by cases e) ho hne
  obtain ⟨r0, r1, r2, f0, f1, f2⟩ := rule_cells b6
  have HX := hide hX
  have HO := hide hO
  have GX := hide gX
  clear hX hO gX b6 ho hg6 hne hat hlt hsk
  go_wp2
  refine bodyPost_ret (ret_rule2 rfl _ _ w.heap.size rfl HX.out) rfl ?_
  exact ⟨⟨_, _, _, rfl, HO.out⟩, GX.out⟩

set_option maxRecDepth 100000 in
set_option maxHeartbeats 1600000 in
theorem rule_Floor (w : World) (hl : Laid w) :
    Calls Tryz.prog 103 #[.string ⟨#[70, 108, 111, 111, 114]⟩] w fun e w' => Ruled (some (1, 1, [thenRa])) w' e ∧ w.grownBy w' none := by
  have e1 : isOne ⟨#[70, 108, 111, 111, 114]⟩ = true := by simp only [isOne, bytes_toList]; rfl
  obtain ⟨w0, hw0⟩ : ∃ w0, w0 = w.alloc (.cells #[.int .i64 0, .int .i64 0, .slice none 0 0] 146) := ⟨_, rfl⟩
  have g0 : w.grownBy w0 none := by rw [hw0]; exact grown_new _ _
  have b0 := heap_alloc_new w (.cells #[.int .i64 0, .int .i64 0, .slice none 0 0] 146)
  rw [← hw0] at b0
  have B0 := hide b0
  have OO := hide (ofone_any ⟨#[70, 108, 111, 111, 114]⟩ w0 (hl.more g0))
  rw [e1] at OO
  clear hl b0 e1
  go_enter Tryz.func103, Tryz.ntmps103
  go_wp2_with fail
  rw [← hw0]
  clear hw0
  refine OO.out.mono ?_
  rintro e v0 ⟨rfl, h0⟩
  go_wp2_with fail
  refine (takes_any _ _ _ [] _ (Or.inl ⟨rfl, rfl⟩) (by decide)).mono ?_
  rintro e w6 ⟨⟨a, n, c, rfl, ho, hat⟩, hg6⟩
  have hlt := (Array.getElem?_eq_some_iff.1 B0.out).1
  have hsk := h0.size
  have hne : (Value.slice a n c).ownBlock ≠ some w.heap.size := fun hh => by
    rcases hat _ hh with h | h
    · cases h
    · omega
  obtain ⟨b6, hX, hO, gX⟩ := rule_put (lo := 1) (hi := 1) g0 B0.out h0 (grown_refl _) hg6 (fun g e => by cases e) ho hne
  obtain ⟨r0, r1, r2, f0, f1, f2⟩ := rule_cells b6
  have HX := hide hX
  have HO := hide hO
  have GX := hide gX
  clear hX hO gX b6 ho hg6 hne hat hlt hsk
  go_wp2
  refine bodyPost_ret (ret_rule2 rfl _ _ w.heap.size rfl HX.out) rfl ?_
  exact ⟨⟨_, _, _, rfl, HO.out⟩, GX.out⟩

set_option maxRecDepth 100000 in
set_option maxHeartbeats 1600000 in
theorem rule_Exp (w : World) (hl : Laid w) :
    Calls Tryz.prog 103 #[.string ⟨#[69, 120, 112]⟩] w fun e w' => Ruled (some (1, 1, [thenRa])) w' e ∧ w.grownBy w' none := by
  have e1 : isOne ⟨#[69, 120, 112]⟩ = true := by simp only [isOne, bytes_toList]; rfl
  obtain ⟨w0, hw0⟩ : ∃ w0, w0 = w.alloc (.cells #[.int .i64 0, .int .i64 0, .slice none 0 0] 146) := ⟨_, rfl⟩
  have g0 : w.grownBy w0 none := by rw [hw0]; exact grown_new _ _
  have b0 := heap_alloc_new w (.cells #[.int .i64 0, .int .i64 0, .slice none 0 0] 146)
  rw [← hw0] at b0
  have B0 := hide b0
  have OO := hide (ofone_any ⟨#[69, 120, 112]⟩ w0 (hl.more g0))
  rw [e1] at OO
  clear hl b0 e1
  go_enter Tryz.func103, Tryz.ntmps103
  go_wp2_with fail
  rw [← hw0]
  clear hw0
  refine OO.out.mono ?_
  rintro e v0 ⟨rfl, h0⟩
  go_wp2_with fail
  refine (takes_any _ _ _ [] _ (Or.inl ⟨rfl, rfl⟩) (by decide)).mono ?_
  rintro e w6 ⟨⟨a, n, c, rfl, ho, hat⟩, hg6⟩
  have hlt := (Array.getElem?_eq_some_iff.1 B0.out).1
  have hsk := h0.size
  have hne : (Value.slice a n c).ownBlock ≠ some w.heap.size := fun hh => by
    rcases hat _ hh with h | h
    · cases h
    · omega
  obtain ⟨b6, hX, hO, gX⟩ := rule_put (lo := 1) (hi := 1) g0 B0.out h0 (grown_refl _) hg6 (fun g e => by cases e) ho hne
  obtain ⟨r0, r1, r2, f0, f1, f2⟩ := rule_cells b6
  have HX := hide hX
  have HO := hide hO
  have GX := hide gX
  clear hX hO gX b6 ho hg6 hne hat hlt hsk
  go_wp2
  refine bodyPost_ret (ret_rule2 rfl _ _ w.heap.size rfl HX.out) rfl ?_
  exact ⟨⟨_, _, _, rfl, HO.out⟩, GX.out⟩

set_option maxRecDepth 100000 in
set_option maxHeartbeats 1600000 in
theorem rule_Sigmoid (w : World) (hl : Laid w) :
    Calls Tryz.prog 103 #[.string ⟨#[83, 105, 103, 109, 111, 105, 100]⟩] w fun e w' => Ruled (some (1, 1, [thenRa])) w' e ∧ w.grownBy w' none := by
  have e1 : isOne ⟨#[83, 105, 103, 109, 111, 105, 100]⟩ = true := by simp only [isOne, bytes_toList]; rfl
  obtain ⟨w0, hw0⟩ : ∃ w0, w0 = w.alloc (.cells #[.int .i64 0, .int .i64 0, .slice none 0 0] 146) := ⟨_, rfl⟩
  have g0 : w.grownBy w0 none := by rw [hw0]; exact grown_new _ _
  have b0 := heap_alloc_new w (.cells #[.int .i64 0, .int .i64 0, .slice none 0 0] 146)
  rw [← hw0] at b0
  have B0 := hide b0
  have OO := hide (ofone_any ⟨#[83, 105, 103, 109, 111, 105, 100]⟩ w0 (hl.more g0))
  rw [e1] at OO
  clear hl b0 e1
  go_enter Tryz.func103, Tryz.ntmps103
  go_wp2_with fail
  rw [← hw0]
  clear hw0
  refine OO.out.mono ?_
  rintro e v0 ⟨rfl, h0⟩
  go_wp2_with fail
  refine (takes_any _ _ _ [] _ (Or.inl ⟨rfl, rfl⟩) (by decide)).mono ?_
  rintro e w6 ⟨⟨a, n, c, rfl, ho, hat⟩, hg6⟩
  have hlt := (Array.getElem?_eq_some_iff.1 B0.out).1
  have hsk := h0.size
  have hne : (Value.slice a n c).ownBlock ≠ some w.heap.size := fun hh => by
    rcases hat _ hh with h | h
    · cases h
    · omega
  obtain ⟨b6, hX, hO, gX⟩ := rule_put (lo := 1) (hi := 1) g0 B0.out h0 (grown_refl _) hg6 (fun g e => by cases e) ho hne
  obtain ⟨r0, r1, r2, f0, f1, f2⟩ := rule_cells b6
  have HX := hide hX
  have HO := hide hO
  have GX := hide gX
  clear hX hO gX b6 ho hg6 hne hat hlt hsk
  go_wp2
  refine bodyPost_ret (ret_rule2 rfl _ _ w.heap.size rfl HX.out) rfl ?_
  exact ⟨⟨_, _, _, rfl, HO.out⟩, GX.out⟩

set_option maxRecDepth 100000 in
set_option maxHeartbeats 1600000 in
theorem rule_Tanh (w : World) (hl : Laid w) :
    Calls Tryz.prog 103 #[.string ⟨#[84, 97, 110, 104]⟩] w fun e w' => Ruled (some (1, 1, [thenRa])) w' e ∧ w.grownBy w' none := by
  have e1 : isOne ⟨#[84, 97, 110, 104]⟩ = true := by simp only [isOne, bytes_toList]; rfl
  obtain ⟨w0, hw0⟩ : ∃ w0, w0 = w.alloc (.cells #[.int .i64 0, .int .i64 0, .slice none 0 0] 146) := ⟨_, rfl⟩
  have g0 : w.grownBy w0 none := by rw [hw0]; exact grown_new _ _
  have b0 := heap_alloc_new w (.cells #[.int .i64 0, .int .i64 0, .slice none 0 0] 146)
  rw [← hw0] at b0
  have B0 := hide b0
  have OO := hide (ofone_any ⟨#[84, 97, 110, 104]⟩ w0 (hl.more g0))
  rw [e1] at OO
  clear hl b0 e1
  go_enter Tryz.func103, Tryz.ntmps103
  go_wp2_with fail
  rw [← hw0]
  clear hw0
  refine OO.out.mono ?_
  rintro e v0 ⟨rfl, h0⟩
  go_wp2_with fail
  refine (takes_any _ _ _ [] _ (Or.inl ⟨rfl, rfl⟩) (by decide)).mono ?_
  rintro e w6 ⟨⟨a, n, c, rfl, ho, hat⟩, hg6⟩
  have hlt := (Array.getElem?_eq_some_iff.1 B0.out).1
  have hsk := h0.size
  have hne : (Value.slice a n c).ownBlock ≠ some w.heap.size := fun hh => by
    rcases hat _ hh with h | h
    · cases h
    · omega
  obtain ⟨b6, hX, hO, gX⟩ := rule_put (lo := 1) (hi := 1) g0 B0.out h0 (grown_refl _) hg6 (fun g e => by cases e) ho hne
  obtain ⟨r0, r1, r2, f0, f1, f2⟩ := rule_cells b6
  have HX := hide hX
  have HO := hide hO
  have GX := hide gX
  clear hX hO gX b6 ho hg6 hne hat hlt hsk
  go_wp2
  refine bodyPost_ret (ret_rule2 rfl _ _ w.heap.size rfl HX.out) rfl ?_
  exact ⟨⟨_, _, _, rfl, HO.out⟩, GX.out⟩

set_option maxRecDepth 100000 in
set_option maxHeartbeats 1600000 in
theorem rule_Sub (w : World) (hl : Laid w) :
    Calls Tryz.prog 103 #[.string ⟨#[83, 117, 98]⟩] w fun e w' => Ruled (some (2, 2, [thenRa])) w' e ∧ w.grownBy w' none := by
  have e1 : isOne ⟨#[83, 117, 98]⟩ = false := by simp only [isOne, bytes_toList]; rfl
  obtain ⟨w0, hw0⟩ : ∃ w0, w0 = w.alloc (.cells #[.int .i64 0, .int .i64 0, .slice none 0 0] 146) := ⟨_, rfl⟩
  have g0 : w.grownBy w0 none := by rw [hw0]; exact grown_new _ _
  have b0 := heap_alloc_new w (.cells #[.int .i64 0, .int .i64 0, .slice none 0 0] 146)
  rw [← hw0] at b0
  have B0 := hide b0
  have OO := hide (ofone_any ⟨#[83, 117, 98]⟩ w0 (hl.more g0))
  rw [e1] at OO
  clear hl b0 e1
  go_enter Tryz.func103, Tryz.ntmps103
  go_wp2_with fail
  rw [← hw0]
  clear hw0
  refine OO.out.mono ?_
  rintro e v0 ⟨rfl, h0⟩
  go_wp2_with fail
  refine (takes_any _ _ _ [] _ (Or.inl ⟨rfl, rfl⟩) (by decide)).mono ?_
  rintro e w6 ⟨⟨a, n, c, rfl, ho, hat⟩, hg6⟩
  have hlt := (Array.getElem?_eq_some_iff.1 B0.out).1
  have hsk := h0.size
  have hne : (Value.slice a n c).ownBlock ≠ some w.heap.size := fun hh => by
    rcases hat _ hh with h | h
    · cases h
    · omega
  obtain ⟨b6, hX, hO, gX⟩ := rule_put (lo := 2) (hi := 2) g0 B0.out h0 (grown_refl _) hg6 (fun g e => by cases e) ho hne
  obtain ⟨r0, r1, r2, f0, f1, f2⟩ := rule_cells b6
  have HX := hide hX
  have HO := hide hO
  have GX := hide gX
  clear hX hO gX b6 ho hg6 hne hat hlt hsk
  go_wp2
  refine bodyPost_ret (ret_rule2 rfl _ _ w.heap.size rfl HX.out) rfl ?_
  exact ⟨⟨_, _, _, rfl, HO.out⟩, GX.out⟩

set_option maxRecDepth 100000 in
set_option maxHeartbeats 1600000 in
theorem rule_Mul (w : World) (hl : Laid w) :
    Calls Tryz.prog 103 #[.string ⟨#[77, 117, 108]⟩] w fun e w' => Ruled (some (2, 2, [thenRa])) w' e ∧ w.grownBy w' none := by
  have e1 : isOne ⟨#[77, 117, 108]⟩ = false := by simp only [isOne, bytes_toList]; rfl
  obtain ⟨w0, hw0⟩ : ∃ w0, w0 = w.alloc (.cells #[.int .i64 0, .int .i64 0, .slice none 0 0] 146) := ⟨_, rfl⟩
  have g0 : w.grownBy w0 none := by rw [hw0]; exact grown_new _ _
  have b0 := heap_alloc_new w (.cells #[.int .i64 0, .int .i64 0, .slice none 0 0] 146)
  rw [← hw0] at b0
  have B0 := hide b0
  have OO := hide (ofone_any ⟨#[77, 117, 108]⟩ w0 (hl.more g0))
  rw [e1] at OO
  clear hl b0 e1
  go_enter Tryz.func103, Tryz.ntmps103
  go_wp2_with fail
  rw [← hw0]
  clear hw0
  refine OO.out.mono ?_
  rintro e v0 ⟨rfl, h0⟩
  go_wp2_with fail
  refine (takes_any _ _ _ [] _ (Or.inl ⟨rfl, rfl⟩) (by decide)).mono ?_
  rintro e w6 ⟨⟨a, n, c, rfl, ho, hat⟩, hg6⟩
  have hlt := (Array.getElem?_eq_some_iff.1 B0.out).1
  have hsk := h0.size
  have hne : (Value.slice a n c).ownBlock ≠ some w.heap.size := fun hh => by
    rcases hat _ hh with h | h
    · cases h
    · omega
  obtain ⟨b6, hX, hO, gX⟩ := rule_put (lo := 2) (hi := 2) g0 B0.out h0 (grown_refl _) hg6 (fun g e => by cases e) ho hne
  obtain ⟨r0, r1, r2, f0, f1, f2⟩ := rule_cells b6
  have HX := hide hX
  have HO := hide hO
  have GX := hide gX
  clear hX hO gX b6 ho hg6 hne hat hlt hsk
  go_wp2
  refine bodyPost_ret (ret_rule2 rfl _ _ w.heap.size rfl HX.out) rfl ?_
  exact ⟨⟨_, _, _, rfl, HO.out⟩, GX.out⟩

set_option maxRecDepth 100000 in
set_option maxHeartbeats 1600000 in
theorem rule_Div (w : World) (hl : Laid w) :
    Calls Tryz.prog 103 #[.string ⟨#[68, 105, 118]⟩] w fun e w' => Ruled (some (2, 2, [thenRa])) w' e ∧ w.grownBy w' none := by
  have e1 : isOne ⟨#[68, 105, 118]⟩ = false := by simp only [isOne, bytes_toList]; rfl
  obtain ⟨w0, hw0⟩ : ∃ w0, w0 = w.alloc (.cells #[.int .i64 0, .int .i64 0, .slice none 0 0] 146) := ⟨_, rfl⟩
  have g0 : w.grownBy w0 none := by rw [hw0]; exact grown_new _ _
  have b0 := heap_alloc_new w (.cells #[.int .i64 0, .int .i64 0, .slice none 0 0] 146)
  rw [← hw0] at b0
  have B0 := hide b0
  have OO := hide (ofone_any ⟨#[68, 105, 118]⟩ w0 (hl.more g0))
  rw [e1] at OO
  clear hl b0 e1
  go_enter Tryz.func103, Tryz.ntmps103
  go_wp2_with fail
  rw [← hw0]
  clear hw0
  refine OO.out.mono ?_
  rintro e v0 ⟨rfl, h0⟩
  go_wp2_with fail
  refine (takes_any _ _ _ [] _ (Or.inl ⟨rfl, rfl⟩) (by decide)).mono ?_
  rintro e w6 ⟨⟨a, n, c, rfl, ho, hat⟩, hg6⟩
  have hlt := (Array.getElem?_eq_some_iff.1 B0.out).1
  have hsk := h0.size
  have hne : (Value.slice a n c).ownBlock ≠ some w.heap.size := fun hh => by
    rcases hat _ hh with h | h
    · cases h
    · omega
  obtain ⟨b6, hX, hO, gX⟩ := rule_put (lo := 2) (hi := 2) g0 B0.out h0 (grown_refl _) hg6 (fun g e => by cases e) ho hne
  obtain ⟨r0, r1, r2, f0, f1, f2⟩ := rule_cells b6
  have HX := hide hX
  have HO := hide hO
  have GX := hide gX
  clear hX hO gX b6 ho hg6 hne hat hlt hsk
  go_wp2
  refine bodyPost_ret (ret_rule2 rfl _ _ w.heap.size rfl HX.out) rfl ?_
  exact ⟨⟨_, _, _, rfl, HO.out⟩, GX.out⟩

set_option maxRecDepth 100000 in
set_option maxHeartbeats 1600000 in
theorem rule_Max (w : World) (hl : Laid w) :
    Calls Tryz.prog 103 #[.string ⟨#[77, 97, 120]⟩] w fun e w' => Ruled (some (2, 2, [thenRa])) w' e ∧ w.grownBy w' none := by
  have e1 : isOne ⟨#[77, 97, 120]⟩ = false := by simp only [isOne, bytes_toList]; rfl
  obtain ⟨w0, hw0⟩ : ∃ w0, w0 = w.alloc (.cells #[.int .i64 0, .int .i64 0, .slice none 0 0] 146) := ⟨_, rfl⟩
  have g0 : w.grownBy w0 none := by rw [hw0]; exact grown_new _ _
  have b0 := heap_alloc_new w (.cells #[.int .i64 0, .int .i64 0, .slice none 0 0] 146)
  rw [← hw0] at b0
  have B0 := hide b0
  have OO := hide (ofone_any ⟨#[77, 97, 120]⟩ w0 (hl.more g0))
  rw [e1] at OO
  clear hl b0 e1
  go_enter Tryz.func103, Tryz.ntmps103
  go_wp2_with fail
  rw [← hw0]
  clear hw0
  refine OO.out.mono ?_
  rintro e v0 ⟨rfl, h0⟩
  go_wp2_with fail
  refine (takes_any _ _ _ [] _ (Or.inl ⟨rfl, rfl⟩) (by decide)).mono ?_
  rintro e w6 ⟨⟨a, n, c, rfl, ho, hat⟩, hg6⟩
  have hlt := (Array.getElem?_eq_some_iff.1 B0.out).1
  have hsk := h0.size
  have hne : (Value.slice a n c).ownBlock ≠ some w.heap.size := fun hh => by
    rcases hat _ hh with h | h
    · cases h
    · omega
  obtain ⟨b6, hX, hO, gX⟩ := rule_put (lo := 2) (hi := 2) g0 B0.out h0 (grown_refl _) hg6 (fun g e => by cases e) ho hne
  obtain ⟨r0, r1, r2, f0, f1, f2⟩ := rule_cells b6
  have HX := hide hX
  have HO := hide hO
  have GX := hide gX
  clear hX hO gX b6 ho hg6 hne hat hlt hsk
  go_wp2
  refine bodyPost_ret (ret_rule2 rfl _ _ w.heap.size rfl HX.out) rfl ?_
  exact ⟨⟨_, _, _, rfl, HO.out⟩, GX.out⟩

set_option maxRecDepth 100000 in
set_option maxHeartbeats 1600000 in
theorem rule_Min (w : World) (hl : Laid w) :
    Calls Tryz.prog 103 #[.string ⟨#[77, 105, 110]⟩] w fun e w' => Ruled (some (2, 2, [thenRa])) w' e ∧ w.grownBy w' none := by
  have e1 : isOne ⟨#[77, 105, 110]⟩ = false := by simp only [isOne, bytes_toList]; rfl
  obtain ⟨w0, hw0⟩ : ∃ w0, w0 = w.alloc (.cells #[.int .i64 0, .int .i64 0, .slice none 0 0] 146) := ⟨_, rfl⟩
  have g0 : w.grownBy w0 none := by rw [hw0]; exact grown_new _ _
  have b0 := heap_alloc_new w (.cells #[.int .i64 0, .int .i64 0, .slice none 0 0] 146)
  rw [← hw0] at b0
  have B0 := hide b0
  have OO := hide (ofone_any ⟨#[77, 105, 110]⟩ w0 (hl.more g0))
  rw [e1] at OO
  clear hl b0 e1
  go_enter Tryz.func103, Tryz.ntmps103
  go_wp2_with fail
  rw [← hw0]
  clear hw0
  refine OO.out.mono ?_
  rintro e v0 ⟨rfl, h0⟩
  go_wp2_with fail
  refine (takes_any _ _ _ [] _ (Or.inl ⟨rfl, rfl⟩) (by decide)).mono ?_
  rintro e w6 ⟨⟨a, n, c, rfl, ho, hat⟩, hg6⟩
  have hlt := (Array.getElem?_eq_some_iff.1 B0.out).1
  have hsk := h0.size
  have hne : (Value.slice a n c).ownBlock ≠ some w.heap.size := fun hh => by
    rcases hat _ hh with h | h
    · cases h
    · omega
  obtain ⟨b6, hX, hO, gX⟩ := rule_put (lo := 2) (hi := 2) g0 B0.out h0 (grown_refl _) hg6 (fun g e => by cases e) ho hne
  obtain ⟨r0, r1, r2, f0, f1, f2⟩ := rule_cells b6
  have HX := hide hX
  have HO := hide hO
  have GX := hide gX
  clear hX hO gX b6 ho hg6 hne hat hlt hsk
  go_wp2
  refine bodyPost_ret (ret_rule2 rfl _ _ w.heap.size rfl HX.out) rfl ?_
  exact ⟨⟨_, _, _, rfl, HO.out⟩, GX.out⟩

set_option maxRecDepth 100000 in
set_option maxHeartbeats 1600000 in
theorem rule_And (w : World) (hl : Laid w) :
    Calls Tryz.prog 103 #[.string ⟨#[65, 110, 100]⟩] w fun e w' => Ruled (some (2, 2, [thenRa])) w' e ∧ w.grownBy w' none := by
  have e1 : isOne ⟨#[65, 110, 100]⟩ = false := by simp only [isOne, bytes_toList]; rfl
  obtain ⟨w0, hw0⟩ : ∃ w0, w0 = w.alloc (.cells #[.int .i64 0, .int .i64 0, .slice none 0 0] 146) := ⟨_, rfl⟩
  have g0 : w.grownBy w0 none := by rw [hw0]; exact grown_new _ _
  have b0 := heap_alloc_new w (.cells #[.int .i64 0, .int .i64 0, .slice none 0 0] 146)
  rw [← hw0] at b0
  have B0 := hide b0
  have OO := hide (ofone_any ⟨#[65, 110, 100]⟩ w0 (hl.more g0))
  rw [e1] at OO
  clear hl b0 e1
  go_enter Tryz.func103, Tryz.ntmps103
  go_wp2_with fail
  rw [← hw0]
  clear hw0
  refine OO.out.mono ?_
  rintro e v0 ⟨rfl, h0⟩
  go_wp2_with fail
  refine (takes_any _ _ _ [] _ (Or.inl ⟨rfl, rfl⟩) (by decide)).mono ?_
  rintro e w6 ⟨⟨a, n, c, rfl, ho, hat⟩, hg6⟩
  have hlt := (Array.getElem?_eq_some_iff.1 B0.out).1
  have hsk := h0.size
  have hne : (Value.slice a n c).ownBlock ≠ some w.heap.size := fun hh => by
    rcases hat _ hh with h | h
    · cases h
    · omega
  obtain ⟨b6, hX, hO, gX⟩ := rule_put (lo := 2) (hi := 2) g0 B0.out h0 (grown_refl _) hg6 (fun g e => by cases e) ho hne
  obtain ⟨r0, r1, r2, f0, f1, f2⟩ := rule_cells b6
  have HX := hide hX
  have HO := hide hO
  have GX := hide gX
  clear hX hO gX b6 ho hg6 hne hat hlt hsk
  go_wp2
  refine bodyPost_ret (ret_rule2 rfl _ _ w.heap.size rfl HX.out) rfl ?_
  exact ⟨⟨_, _, _, rfl, HO.out⟩, GX.out⟩

set_option maxRecDepth 100000 in
set_option maxHeartbeats 1600000 in
theorem rule_Or (w : World) (hl : Laid w) :
    Calls Tryz.prog 103 #[.string ⟨#[79, 114]⟩] w fun e w' => Ruled (some (2, 2, [thenRa])) w' e ∧ w.grownBy w' none := by
  have e1 : isOne ⟨#[79, 114]⟩ = false := by simp only [isOne, bytes_toList]; rfl
  obtain ⟨w0, hw0⟩ : ∃ w0, w0 = w.alloc (.cells #[.int .i64 0, .int .i64 0, .slice none 0 0] 146) := ⟨_, rfl⟩
  have g0 : w.grownBy w0 none := by rw [hw0]; exact grown_new _ _
  have b0 := heap_alloc_new w (.cells #[.int .i64 0, .int .i64 0, .slice none 0 0] 146)
  rw [← hw0] at b0
  have B0 := hide b0
  have OO := hide (ofone_any ⟨#[79, 114]⟩ w0 (hl.more g0))
  rw [e1] at OO
  clear hl b0 e1
  go_enter Tryz.func103, Tryz.ntmps103
  go_wp2_with fail
  rw [← hw0]
  clear hw0
  refine OO.out.mono ?_
  rintro e v0 ⟨rfl, h0⟩
  go_wp2_with fail
  refine (takes_any _ _ _ [] _ (Or.inl ⟨rfl, rfl⟩) (by decide)).mono ?_
  rintro e w6 ⟨⟨a, n, c, rfl, ho, hat⟩, hg6⟩
  have hlt := (Array.getElem?_eq_some_iff.1 B0.out).1
  have hsk := h0.size
  have hne : (Value.slice a n c).ownBlock ≠ some w.heap.size := fun hh => by
    rcases hat _ hh with h | h
    · cases h
    · omega
  obtain ⟨b6, hX, hO, gX⟩ := rule_put (lo := 2) (hi := 2) g0 B0.out h0 (grown_refl _) hg6 (fun g e => by cases e) ho hne
  obtain ⟨r0, r1, r2, f0, f1, f2⟩ := rule_cells b6
  have HX := hide hX
  have HO := hide hO
  have GX := hide gX
  clear hX hO gX b6 ho hg6 hne hat hlt hsk
  go_wp2
  refine bodyPost_ret (ret_rule2 rfl _ _ w.heap.size rfl HX.out) rfl ?_
  exact ⟨⟨_, _, _, rfl, HO.out⟩, GX.out⟩

set_option maxRecDepth 100000 in
set_option maxHeartbeats 1600000 in
theorem rule_Xor (w : World) (hl : Laid w) :
    Calls Tryz.prog 103 #[.string ⟨#[88, 111, 114]⟩] w fun e w' => Ruled (some (2, 2, [thenRa])) w' e ∧ w.grownBy w' none := by
  have e1 : isOne ⟨#[88, 111, 114]⟩ = false := by simp only [isOne, bytes_toList]; rfl
  obtain ⟨w0, hw0⟩ : ∃ w0, w0 = w.alloc (.cells #[.int .i64 0, .int .i64 0, .slice none 0 0] 146) := ⟨_, rfl⟩
  have g0 : w.grownBy w0 none := by rw [hw0]; exact grown_new _ _
  have b0 := heap_alloc_new w (.cells #[.int .i64 0, .int .i64 0, .slice none 0 0] 146)
  rw [← hw0] at b0
  have B0 := hide b0
  have OO := hide (ofone_any ⟨#[88, 111, 114]⟩ w0 (hl.more g0))
  rw [e1] at OO
  clear hl b0 e1
  go_enter Tryz.func103, Tryz.ntmps103
  go_wp2_with fail
  rw [← hw0]
  clear hw0
  refine OO.out.mono ?_
  rintro e v0 ⟨rfl, h0⟩
  go_wp2_with fail
  refine (takes_any _ _ _ [] _ (Or.inl ⟨rfl, rfl⟩) (by decide)).mono ?_
  rintro e w6 ⟨⟨a, n, c, rfl, ho, hat⟩, hg6⟩
  have hlt := (Array.getElem?_eq_some_iff.1 B0.out).1
  have hsk := h0.size
  have hne : (Value.slice a n c).ownBlock ≠ some w.heap.size := fun hh => by
    rcases hat _ hh with h | h
    · cases h
    · omega
  obtain ⟨b6, hX, hO, gX⟩ := rule_put (lo := 2) (hi := 2) g0 B0.out h0 (grown_refl _) hg6 (fun g e => by cases e) ho hne
  obtain ⟨r0, r1, r2, f0, f1, f2⟩ := rule_cells b6
  have HX := hide hX
  have HO := hide hO
  have GX := hide gX
  clear hX hO gX b6 ho hg6 hne hat hlt hsk
  go_wp2
  refine bodyPost_ret (ret_rule2 rfl _ _ w.heap.size rfl HX.out) rfl ?_
  exact ⟨⟨_, _, _, rfl, HO.out⟩, GX.out⟩

set_option maxRecDepth 100000 in
set_option maxHeartbeats 1600000 in
theorem rule_Equal (w : World) (hl : Laid w) :
    Calls Tryz.prog 103 #[.string ⟨#[69, 113, 117, 97, 108]⟩] w fun e w' => Ruled (some (2, 2, [thenRa])) w' e ∧ w.grownBy w' none := by
  have e1 : isOne ⟨#[69, 113, 117, 97, 108]⟩ = false := by simp only [isOne, bytes_toList]; rfl
  obtain ⟨w0, hw0⟩ : ∃ w0, w0 = w.alloc (.cells #[.int .i64 0, .int .i64 0, .slice none 0 0] 146) := ⟨_, rfl⟩
  have g0 : w.grownBy w0 none := by rw [hw0]; exact grown_new _ _
  have b0 := heap_alloc_new w (.cells #[.int .i64 0, .int .i64 0, .slice none 0 0] 146)
  rw [← hw0] at b0
  have B0 := hide b0
  have OO := hide (ofone_any ⟨#[69, 113, 117, 97, 108]⟩ w0 (hl.more g0))
  rw [e1] at OO
  clear hl b0 e1
  go_enter Tryz.func103, Tryz.ntmps103
  go_wp2_with fail
  rw [← hw0]
  clear hw0
  refine OO.out.mono ?_
  rintro e v0 ⟨rfl, h0⟩
  go_wp2_with fail
  refine (takes_any _ _ _ [] _ (Or.inl ⟨rfl, rfl⟩) (by decide)).mono ?_
  rintro e w6 ⟨⟨a, n, c, rfl, ho, hat⟩, hg6⟩
  have hlt := (Array.getElem?_eq_some_iff.1 B0.out).1
  have hsk := h0.size
  have hne : (Value.slice a n c).ownBlock ≠ some w.heap.size := fun hh => by
    rcases hat _ hh with h | h
    · cases h
    · omega
  obtain ⟨b6, hX, hO, gX⟩ := rule_put (lo := 2) (hi := 2) g0 B0.out h0 (grown_refl _) hg6 (fun g e => by cases e) ho hne
  obtain ⟨r0, r1, r2, f0, f1, f2⟩ := rule_cells b6
  have HX := hide hX
  have HO := hide hO
  have GX := hide gX
  clear hX hO gX b6 ho hg6 hne hat hlt hsk
  go_wp2
  refine bodyPost_ret (ret_rule2 rfl _ _ w.heap.size rfl HX.out) rfl ?_
  exact ⟨⟨_, _, _, rfl, HO.out⟩, GX.out⟩

set_option maxRecDepth 100000 in
set_option maxHeartbeats 1600000 in
theorem rule_Less (w : World) (hl : Laid w) :
    Calls Tryz.prog 103 #[.string ⟨#[76, 101, 115, 115]⟩] w fun e w' => Ruled (some (2, 2, [thenRa])) w' e ∧ w.grownBy w' none := by
  have e1 : isOne ⟨#[76, 101, 115, 115]⟩ = false := by simp only [isOne, bytes_toList]; rfl
  obtain ⟨w0, hw0⟩ : ∃ w0, w0 = w.alloc (.cells #[.int .i64 0, .int .i64 0, .slice none 0 0] 146) := ⟨_, rfl⟩
  have g0 : w.grownBy w0 none := by rw [hw0]; exact grown_new _ _
  have b0 := heap_alloc_new w (.cells #[.int .i64 0, .int .i64 0, .slice none 0 0] 146)
  rw [← hw0] at b0
  have B0 := hide b0
  have OO := hide (ofone_any ⟨#[76, 101, 115, 115]⟩ w0 (hl.more g0))
  rw [e1] at OO
  clear hl b0 e1
  go_enter Tryz.func103, Tryz.ntmps103
  go_wp2_with fail
  rw [← hw0]
  clear hw0
  refine OO.out.mono ?_
  rintro e v0 ⟨rfl, h0⟩
  go_wp2_with fail
  refine (takes_any _ _ _ [] _ (Or.inl ⟨rfl, rfl⟩) (by decide)).mono ?_
  rintro e w6 ⟨⟨a, n, c, rfl, ho, hat⟩, hg6⟩
  have hlt := (Array.getElem?_eq_some_iff.1 B0.out).1
  have hsk := h0.size
  have hne : (Value.slice a n c).ownBlock ≠ some w.heap.size := fun hh => by
    rcases hat _ hh with h | h
    · cases h
    · omega
  obtain ⟨b6, hX, hO, gX⟩ := rule_put (lo := 2) (hi := 2) g0 B0.out h0 (grown_refl _) hg6 (fun g e => by cases e) ho hne
  obtain ⟨r0, r1, r2, f0, f1, f2⟩ := rule_cells b6
  have HX := hide hX
  have HO := hide hO
  have GX := hide gX
  clear hX hO gX b6 ho hg6 hne hat hlt hsk
  go_wp2
  refine bodyPost_ret (ret_rule2 rfl _ _ w.heap.size rfl HX.out) rfl ?_
  exact ⟨⟨_, _, _, rfl, HO.out⟩, GX.out⟩

set_option maxRecDepth 100000 in
set_option maxHeartbeats 1600000 in
theorem rule_Greater (w : World) (hl : Laid w) :
    Calls Tryz.prog 103 #[.string ⟨#[71, 114, 101, 97, 116, 101, 114]⟩] w fun e w' => Ruled (some (2, 2, [thenRa])) w' e ∧ w.grownBy w' none := by
  have e1 : isOne ⟨#[71, 114, 101, 97, 116, 101, 114]⟩ = false := by simp only [isOne, bytes_toList]; rfl
  obtain ⟨w0, hw0⟩ : ∃ w0, w0 = w.alloc (.cells #[.int .i64 0, .int .i64 0, .slice none 0 0] 146) := ⟨_, rfl⟩
  have g0 : w.grownBy w0 none := by rw [hw0]; exact grown_new _ _
  have b0 := heap_alloc_new w (.cells #[.int .i64 0, .int .i64 0, .slice none 0 0] 146)
  rw [← hw0] at b0
  have B0 := hide b0
  have OO := hide (ofone_any ⟨#[71, 114, 101, 97, 116, 101, 114]⟩ w0 (hl.more g0))
  rw [e1] at OO
  clear hl b0 e1
  go_enter Tryz.func103, Tryz.ntmps103
  go_wp2_with fail
  rw [← hw0]
  clear hw0
  refine OO.out.mono ?_
  rintro e v0 ⟨rfl, h0⟩
  go_wp2_with fail
  refine (takes_any _ _ _ [] _ (Or.inl ⟨rfl, rfl⟩) (by decide)).mono ?_
  rintro e w6 ⟨⟨a, n, c, rfl, ho, hat⟩, hg6⟩
  have hlt := (Array.getElem?_eq_some_iff.1 B0.out).1
  have hsk := h0.size
  have hne : (Value.slice a n c).ownBlock ≠ some w.heap.size := fun hh => by
    rcases hat _ hh with h | h
    · cases h
    · omega
  obtain ⟨b6, hX, hO, gX⟩ := rule_put (lo := 2) (hi := 2) g0 B0.out h0 (grown_refl _) hg6 (fun g e => by cases e) ho hne
  obtain ⟨r0, r1, r2, f0, f1, f2⟩ := rule_cells b6
  have HX := hide hX
  have HO := hide hO
  have GX := hide gX
  clear hX hO gX b6 ho hg6 hne hat hlt hsk
  go_wp2
  refine bodyPost_ret (ret_rule2 rfl _ _ w.heap.size rfl HX.out) rfl ?_
  exact ⟨⟨_, _, _, rfl, HO.out⟩, GX.out⟩

set_option maxRecDepth 100000 in
set_option maxHeartbeats 1600000 in
theorem rule_MatMul (w : World) (hl : Laid w) :
    Calls Tryz.prog 103 #[.string ⟨#[77, 97, 116, 77, 117, 108]⟩] w fun e w' => Ruled (some (2, 2, [thenRa])) w' e ∧ w.grownBy w' none := by
  have e1 : isOne ⟨#[77, 97, 116, 77, 117, 108]⟩ = false := by simp only [isOne, bytes_toList]; rfl
  obtain ⟨w0, hw0⟩ : ∃ w0, w0 = w.alloc (.cells #[.int .i64 0, .int .i64 0, .slice none 0 0] 146) := ⟨_, rfl⟩
  have g0 : w.grownBy w0 none := by rw [hw0]; exact grown_new _ _
  have b0 := heap_alloc_new w (.cells #[.int .i64 0, .int .i64 0, .slice none 0 0] 146)
  rw [← hw0] at b0
  have B0 := hide b0
  have OO := hide (ofone_any ⟨#[77, 97, 116, 77, 117, 108]⟩ w0 (hl.more g0))
  rw [e1] at OO
  clear hl b0 e1
  go_enter Tryz.func103, Tryz.ntmps103
  go_wp2_with fail
  rw [← hw0]
  clear hw0
  refine OO.out.mono ?_
  rintro e v0 ⟨rfl, h0⟩
  go_wp2_with fail
  refine (takes_any _ _ _ [] _ (Or.inl ⟨rfl, rfl⟩) (by decide)).mono ?_
  rintro e w6 ⟨⟨a, n, c, rfl, ho, hat⟩, hg6⟩
  have hlt := (Array.getElem?_eq_some_iff.1 B0.out).1
  have hsk := h0.size
  have hne : (Value.slice a n c).ownBlock ≠ some w.heap.size := fun hh => by
    rcases hat _ hh with h | h
    · cases h
    · omega
  obtain ⟨b6, hX, hO, gX⟩ := rule_put (lo := 2) (hi := 2) g0 B0.out h0 (grown_refl _) hg6 (fun g e => by cases e) ho hne
  obtain ⟨r0, r1, r2, f0, f1, f2⟩ := rule_cells b6
  have HX := hide hX
  have HO := hide hO
  have GX := hide gX
  clear hX hO gX b6 ho hg6 hne hat hlt hsk
  go_wp2
  refine bodyPost_ret (ret_rule2 rfl _ _ w.heap.size rfl HX.out) rfl ?_
  exact ⟨⟨_, _, _, rfl, HO.out⟩, GX.out⟩

end Go.Proofs.YtfladhogkhhlcaaGreatDoor

/- What an operator takes, operator by operator (mkRule.py). -/
namespace Go.Proofs.YtfladhogkhhlcaaGreatDoor
open Go.RowKit

set_option maxRecDepth 100000 in
set_option maxHeartbeats 1600000 in
theorem rule_Where (w : World) (hl : Laid w) :
    Calls Tryz.prog 103 #[.string ⟨#[87, 104, 101, 114, 101]⟩] w fun e w' => Ruled (some (3, 3, [thenRa])) w' e ∧ w.grownBy w' none := by
  have e1 : isOne ⟨#[87, 104, 101, 114, 101]⟩ = false := by simp only [isOne, bytes_toList]; rfl
  obtain ⟨w0, hw0⟩ : ∃ w0, w0 = w.alloc (.cells #[.int .i64 0, .int .i64 0, .slice none 0 0] 146) := ⟨_, rfl⟩
  have g0 : w.grownBy w0 none := by rw [hw0]; exact grown_new _ _
  have b0 := heap_alloc_new w (.cells #[.int .i64 0, .int .i64 0, .slice none 0 0] 146)
  rw [← hw0] at b0
  have B0 := hide b0
  have OO := hide (ofone_any ⟨#[87, 104, 101, 114, 101]⟩ w0 (hl.more g0))
  rw [e1] at OO
  clear hl b0 e1
  go_enter Tryz.func103, Tryz.ntmps103
  go_wp2_with fail
  rw [← hw0]
  clear hw0
  refine OO.out.mono ?_
  rintro e v0 ⟨rfl, h0⟩
  go_wp2_with fail
  refine (takes_any _ _ _ [] _ (Or.inl ⟨rfl, rfl⟩) (by decide)).mono ?_
  rintro e w6 ⟨⟨a, n, c, rfl, ho, hat⟩, hg6⟩
  have hlt := (Array.getElem?_eq_some_iff.1 B0.out).1
  have hsk := h0.size
  have hne : (Value.slice a n c).ownBlock ≠ some w.heap.size := fun hh => by
    rcases hat _ hh with h | h
    · cases h
    · omega
  obtain ⟨b6, hX, hO, gX⟩ := rule_put (lo := 3) (hi := 3) g0 B0.out h0 (grown_refl _) hg6 (fun g e => by cases e) ho hne
  obtain ⟨r0, r1, r2, f0, f1, f2⟩ := rule_cells b6
  have HX := hide hX
  have HO := hide hO
  have GX := hide gX
  clear hX hO gX b6 ho hg6 hne hat hlt hsk
  go_wp2
  refine bodyPost_ret (ret_rule2 rfl _ _ w.heap.size rfl HX.out) rfl ?_
  exact ⟨⟨_, _, _, rfl, HO.out⟩, GX.out⟩

set_option maxRecDepth 100000 in
set_option maxHeartbeats 1600000 in
theorem rule_Clip (w : World) (hl : Laid w) :
    Calls Tryz.prog 103 #[.string ⟨#[67, 108, 105, 112]⟩] w fun e w' => Ruled (some (1, 1, [⟨⟨#[109, 105, 110]⟩, 1, false⟩, ⟨⟨#[109, 97, 120]⟩, 1, false⟩, thenRa])) w' e ∧ w.grownBy w' none := by
  have e1 : isOne ⟨#[67, 108, 105, 112]⟩ = false := by simp only [isOne, bytes_toList]; rfl
  obtain ⟨w0, hw0⟩ : ∃ w0, w0 = w.alloc (.cells #[.int .i64 0, .int .i64 0, .slice none 0 0] 146) := ⟨_, rfl⟩
  have g0 : w.grownBy w0 none := by rw [hw0]; exact grown_new _ _
  have b0 := heap_alloc_new w (.cells #[.int .i64 0, .int .i64 0, .slice none 0 0] 146)
  rw [← hw0] at b0
  have B0 := hide b0
  have OO := hide (ofone_any ⟨#[67, 108, 105, 112]⟩ w0 (hl.more g0))
  rw [e1] at OO
  clear hl b0 e1
  go_enter Tryz.func103, Tryz.ntmps103
  go_wp2_with fail
  rw [← hw0]
  clear hw0
  refine OO.out.mono ?_
  rintro e v0 ⟨rfl, h0⟩
  go_wp2_with fail
  refine (may_any _ _ _).mono ?_
  rintro e v1 ⟨rfl, h1'⟩
  have h1 := grown_trans h0 h1'
  go_wp2_with fail
  refine (may_any _ _ _).mono ?_
  rintro e v2 ⟨rfl, h2'⟩
  have h2 := grown_trans h1 h2'
  go_wp2_with fail
  refine (takes_any _ _ _ [⟨⟨#[109, 105, 110]⟩, 1, false⟩, ⟨⟨#[109, 97, 120]⟩, 1, false⟩] _ (Or.inr ⟨_, _, rfl, heap_alloc_new _ _, rfl, rfl⟩) (by decide)).mono ?_
  rintro e w6 ⟨⟨a, n, c, rfl, ho, hat⟩, hg6⟩
  have hlt := (Array.getElem?_eq_some_iff.1 B0.out).1
  have hsk := h2.size
  have hne : (Value.slice a n c).ownBlock ≠ some w.heap.size := fun hh => by
    rcases hat _ hh with h | h
    · have : v2.heap.size = w.heap.size := by simpa [Value.ownBlock] using h
      omega
    · have : v2.heap.size + 1 ≤ w.heap.size := by simpa using h
      omega
  obtain ⟨b6, hX, hO, gX⟩ := rule_put (lo := 1) (hi := 1) g0 B0.out h2 (grown_new v2 (.cells #[.string ⟨#[109, 105, 110]⟩, .int .i64 1, .bool false, .string ⟨#[109, 97, 120]⟩, .int .i64 1, .bool false] 174)) hg6 (fun g e => by cases e; exact Nat.le_refl _) ho hne
  obtain ⟨r0, r1, r2, f0, f1, f2⟩ := rule_cells b6
  have HX := hide hX
  have HO := hide hO
  have GX := hide gX
  clear hX hO gX b6 ho hg6 hne hat hlt hsk
  go_wp2
  refine bodyPost_ret (ret_rule2 rfl _ _ w.heap.size rfl HX.out) rfl ?_
  exact ⟨⟨_, _, _, rfl, HO.out⟩, GX.out⟩

set_option maxRecDepth 100000 in
set_option maxHeartbeats 1600000 in
theorem rule_ReduceSum (w : World) (hl : Laid w) :
    Calls Tryz.prog 103 #[.string ⟨#[82, 101, 100, 117, 99, 101, 83, 117, 109]⟩] w fun e w' => Ruled (some (1, 1, [⟨⟨#[97, 120, 101, 115]⟩, 7, false⟩, ⟨⟨#[107, 101, 101, 112, 100, 105, 109, 115]⟩, 2, false⟩, thenRa])) w' e ∧ w.grownBy w' none := by
  have e1 : isOne ⟨#[82, 101, 100, 117, 99, 101, 83, 117, 109]⟩ = false := by simp only [isOne, bytes_toList]; rfl
  obtain ⟨w0, hw0⟩ : ∃ w0, w0 = w.alloc (.cells #[.int .i64 0, .int .i64 0, .slice none 0 0] 146) := ⟨_, rfl⟩
  have g0 : w.grownBy w0 none := by rw [hw0]; exact grown_new _ _
  have b0 := heap_alloc_new w (.cells #[.int .i64 0, .int .i64 0, .slice none 0 0] 146)
  rw [← hw0] at b0
  have B0 := hide b0
  have OO := hide (ofone_any ⟨#[82, 101, 100, 117, 99, 101, 83, 117, 109]⟩ w0 (hl.more g0))
  rw [e1] at OO
  clear hl b0 e1
  go_enter Tryz.func103, Tryz.ntmps103
  go_wp2_with fail
  rw [← hw0]
  clear hw0
  refine OO.out.mono ?_
  rintro e v0 ⟨rfl, h0⟩
  go_wp2_with fail
  refine (may_any _ _ _).mono ?_
  rintro e v1 ⟨rfl, h1'⟩
  have h1 := grown_trans h0 h1'
  go_wp2_with fail
  refine (may_any _ _ _).mono ?_
  rintro e v2 ⟨rfl, h2'⟩
  have h2 := grown_trans h1 h2'
  go_wp2_with fail
  refine (takes_any _ _ _ [⟨⟨#[97, 120, 101, 115]⟩, 7, false⟩, ⟨⟨#[107, 101, 101, 112, 100, 105, 109, 115]⟩, 2, false⟩] _ (Or.inr ⟨_, _, rfl, heap_alloc_new _ _, rfl, rfl⟩) (by decide)).mono ?_
  rintro e w6 ⟨⟨a, n, c, rfl, ho, hat⟩, hg6⟩
  have hlt := (Array.getElem?_eq_some_iff.1 B0.out).1
  have hsk := h2.size
  have hne : (Value.slice a n c).ownBlock ≠ some w.heap.size := fun hh => by
    rcases hat _ hh with h | h
    · have : v2.heap.size = w.heap.size := by simpa [Value.ownBlock] using h
      omega
    · have : v2.heap.size + 1 ≤ w.heap.size := by simpa using h
      omega
  obtain ⟨b6, hX, hO, gX⟩ := rule_put (lo := 1) (hi := 1) g0 B0.out h2 (grown_new v2 (.cells #[.string ⟨#[97, 120, 101, 115]⟩, .int .i64 7, .bool false, .string ⟨#[107, 101, 101, 112, 100, 105, 109, 115]⟩, .int .i64 2, .bool false] 174)) hg6 (fun g e => by cases e; exact Nat.le_refl _) ho hne
  obtain ⟨r0, r1, r2, f0, f1, f2⟩ := rule_cells b6
  have HX := hide hX
  have HO := hide hO
  have GX := hide gX
  clear hX hO gX b6 ho hg6 hne hat hlt hsk
  go_wp2
  refine bodyPost_ret (ret_rule2 rfl _ _ w.heap.size rfl HX.out) rfl ?_
  exact ⟨⟨_, _, _, rfl, HO.out⟩, GX.out⟩

set_option maxRecDepth 100000 in
set_option maxHeartbeats 1600000 in
theorem rule_ReduceMax (w : World) (hl : Laid w) :
    Calls Tryz.prog 103 #[.string ⟨#[82, 101, 100, 117, 99, 101, 77, 97, 120]⟩] w fun e w' => Ruled (some (1, 1, [⟨⟨#[97, 120, 101, 115]⟩, 7, false⟩, ⟨⟨#[107, 101, 101, 112, 100, 105, 109, 115]⟩, 2, false⟩, thenRa])) w' e ∧ w.grownBy w' none := by
  have e1 : isOne ⟨#[82, 101, 100, 117, 99, 101, 77, 97, 120]⟩ = false := by simp only [isOne, bytes_toList]; rfl
  obtain ⟨w0, hw0⟩ : ∃ w0, w0 = w.alloc (.cells #[.int .i64 0, .int .i64 0, .slice none 0 0] 146) := ⟨_, rfl⟩
  have g0 : w.grownBy w0 none := by rw [hw0]; exact grown_new _ _
  have b0 := heap_alloc_new w (.cells #[.int .i64 0, .int .i64 0, .slice none 0 0] 146)
  rw [← hw0] at b0
  have B0 := hide b0
  have OO := hide (ofone_any ⟨#[82, 101, 100, 117, 99, 101, 77, 97, 120]⟩ w0 (hl.more g0))
  rw [e1] at OO
  clear hl b0 e1
  go_enter Tryz.func103, Tryz.ntmps103
  go_wp2_with fail
  rw [← hw0]
  clear hw0
  refine OO.out.mono ?_
  rintro e v0 ⟨rfl, h0⟩
  go_wp2_with fail
  refine (may_any _ _ _).mono ?_
  rintro e v1 ⟨rfl, h1'⟩
  have h1 := grown_trans h0 h1'
  go_wp2_with fail
  refine (may_any _ _ _).mono ?_
  rintro e v2 ⟨rfl, h2'⟩
  have h2 := grown_trans h1 h2'
  go_wp2_with fail
  refine (takes_any _ _ _ [⟨⟨#[97, 120, 101, 115]⟩, 7, false⟩, ⟨⟨#[107, 101, 101, 112, 100, 105, 109, 115]⟩, 2, false⟩] _ (Or.inr ⟨_, _, rfl, heap_alloc_new _ _, rfl, rfl⟩) (by decide)).mono ?_
  rintro e w6 ⟨⟨a, n, c, rfl, ho, hat⟩, hg6⟩
  have hlt := (Array.getElem?_eq_some_iff.1 B0.out).1
  have hsk := h2.size
  have hne : (Value.slice a n c).ownBlock ≠ some w.heap.size := fun hh => by
    rcases hat _ hh with h | h
    · have : v2.heap.size = w.heap.size := by simpa [Value.ownBlock] using h
      omega
    · have : v2.heap.size + 1 ≤ w.heap.size := by simpa using h
      omega
  obtain ⟨b6, hX, hO, gX⟩ := rule_put (lo := 1) (hi := 1) g0 B0.out h2 (grown_new v2 (.cells #[.string ⟨#[97, 120, 101, 115]⟩, .int .i64 7, .bool false, .string ⟨#[107, 101, 101, 112, 100, 105, 109, 115]⟩, .int .i64 2, .bool false] 174)) hg6 (fun g e => by cases e; exact Nat.le_refl _) ho hne
  obtain ⟨r0, r1, r2, f0, f1, f2⟩ := rule_cells b6
  have HX := hide hX
  have HO := hide hO
  have GX := hide gX
  clear hX hO gX b6 ho hg6 hne hat hlt hsk
  go_wp2
  refine bodyPost_ret (ret_rule2 rfl _ _ w.heap.size rfl HX.out) rfl ?_
  exact ⟨⟨_, _, _, rfl, HO.out⟩, GX.out⟩

set_option maxRecDepth 100000 in
set_option maxHeartbeats 1600000 in
theorem rule_ReduceMean (w : World) (hl : Laid w) :
    Calls Tryz.prog 103 #[.string ⟨#[82, 101, 100, 117, 99, 101, 77, 101, 97, 110]⟩] w fun e w' => Ruled (some (1, 1, [⟨⟨#[97, 120, 101, 115]⟩, 7, false⟩, ⟨⟨#[107, 101, 101, 112, 100, 105, 109, 115]⟩, 2, false⟩, thenRa])) w' e ∧ w.grownBy w' none := by
  have e1 : isOne ⟨#[82, 101, 100, 117, 99, 101, 77, 101, 97, 110]⟩ = false := by simp only [isOne, bytes_toList]; rfl
  obtain ⟨w0, hw0⟩ : ∃ w0, w0 = w.alloc (.cells #[.int .i64 0, .int .i64 0, .slice none 0 0] 146) := ⟨_, rfl⟩
  have g0 : w.grownBy w0 none := by rw [hw0]; exact grown_new _ _
  have b0 := heap_alloc_new w (.cells #[.int .i64 0, .int .i64 0, .slice none 0 0] 146)
  rw [← hw0] at b0
  have B0 := hide b0
  have OO := hide (ofone_any ⟨#[82, 101, 100, 117, 99, 101, 77, 101, 97, 110]⟩ w0 (hl.more g0))
  rw [e1] at OO
  clear hl b0 e1
  go_enter Tryz.func103, Tryz.ntmps103
  go_wp2_with fail
  rw [← hw0]
  clear hw0
  refine OO.out.mono ?_
  rintro e v0 ⟨rfl, h0⟩
  go_wp2_with fail
  refine (may_any _ _ _).mono ?_
  rintro e v1 ⟨rfl, h1'⟩
  have h1 := grown_trans h0 h1'
  go_wp2_with fail
  refine (may_any _ _ _).mono ?_
  rintro e v2 ⟨rfl, h2'⟩
  have h2 := grown_trans h1 h2'
  go_wp2_with fail
  refine (takes_any _ _ _ [⟨⟨#[97, 120, 101, 115]⟩, 7, false⟩, ⟨⟨#[107, 101, 101, 112, 100, 105, 109, 115]⟩, 2, false⟩] _ (Or.inr ⟨_, _, rfl, heap_alloc_new _ _, rfl, rfl⟩) (by decide)).mono ?_
  rintro e w6 ⟨⟨a, n, c, rfl, ho, hat⟩, hg6⟩
  have hlt := (Array.getElem?_eq_some_iff.1 B0.out).1
  have hsk := h2.size
  have hne : (Value.slice a n c).ownBlock ≠ some w.heap.size := fun hh => by
    rcases hat _ hh with h | h
    · have : v2.heap.size = w.heap.size := by simpa [Value.ownBlock] using h
      omega
    · have : v2.heap.size + 1 ≤ w.heap.size := by simpa using h
      omega
  obtain ⟨b6, hX, hO, gX⟩ := rule_put (lo := 1) (hi := 1) g0 B0.out h2 (grown_new v2 (.cells #[.string ⟨#[97, 120, 101, 115]⟩, .int .i64 7, .bool false, .string ⟨#[107, 101, 101, 112, 100, 105, 109, 115]⟩, .int .i64 2, .bool false] 174)) hg6 (fun g e => by cases e; exact Nat.le_refl _) ho hne
  obtain ⟨r0, r1, r2, f0, f1, f2⟩ := rule_cells b6
  have HX := hide hX
  have HO := hide hO
  have GX := hide gX
  clear hX hO gX b6 ho hg6 hne hat hlt hsk
  go_wp2
  refine bodyPost_ret (ret_rule2 rfl _ _ w.heap.size rfl HX.out) rfl ?_
  exact ⟨⟨_, _, _, rfl, HO.out⟩, GX.out⟩

set_option maxRecDepth 100000 in
set_option maxHeartbeats 1600000 in
theorem rule_ArgMax (w : World) (hl : Laid w) :
    Calls Tryz.prog 103 #[.string ⟨#[65, 114, 103, 77, 97, 120]⟩] w fun e w' => Ruled (some (1, 1, [⟨⟨#[97, 120, 105, 115]⟩, 2, false⟩, ⟨⟨#[107, 101, 101, 112, 100, 105, 109, 115]⟩, 2, false⟩, thenRa])) w' e ∧ w.grownBy w' none := by
  have e1 : isOne ⟨#[65, 114, 103, 77, 97, 120]⟩ = false := by simp only [isOne, bytes_toList]; rfl
  obtain ⟨w0, hw0⟩ : ∃ w0, w0 = w.alloc (.cells #[.int .i64 0, .int .i64 0, .slice none 0 0] 146) := ⟨_, rfl⟩
  have g0 : w.grownBy w0 none := by rw [hw0]; exact grown_new _ _
  have b0 := heap_alloc_new w (.cells #[.int .i64 0, .int .i64 0, .slice none 0 0] 146)
  rw [← hw0] at b0
  have B0 := hide b0
  have OO := hide (ofone_any ⟨#[65, 114, 103, 77, 97, 120]⟩ w0 (hl.more g0))
  rw [e1] at OO
  clear hl b0 e1
  go_enter Tryz.func103, Tryz.ntmps103
  go_wp2_with fail
  rw [← hw0]
  clear hw0
  refine OO.out.mono ?_
  rintro e v0 ⟨rfl, h0⟩
  go_wp2_with fail
  refine (may_any _ _ _).mono ?_
  rintro e v1 ⟨rfl, h1'⟩
  have h1 := grown_trans h0 h1'
  go_wp2_with fail
  refine (may_any _ _ _).mono ?_
  rintro e v2 ⟨rfl, h2'⟩
  have h2 := grown_trans h1 h2'
  go_wp2_with fail
  refine (takes_any _ _ _ [⟨⟨#[97, 120, 105, 115]⟩, 2, false⟩, ⟨⟨#[107, 101, 101, 112, 100, 105, 109, 115]⟩, 2, false⟩] _ (Or.inr ⟨_, _, rfl, heap_alloc_new _ _, rfl, rfl⟩) (by decide)).mono ?_
  rintro e w6 ⟨⟨a, n, c, rfl, ho, hat⟩, hg6⟩
  have hlt := (Array.getElem?_eq_some_iff.1 B0.out).1
  have hsk := h2.size
  have hne : (Value.slice a n c).ownBlock ≠ some w.heap.size := fun hh => by
    rcases hat _ hh with h | h
    · have : v2.heap.size = w.heap.size := by simpa [Value.ownBlock] using h
      omega
    · have : v2.heap.size + 1 ≤ w.heap.size := by simpa using h
      omega
  obtain ⟨b6, hX, hO, gX⟩ := rule_put (lo := 1) (hi := 1) g0 B0.out h2 (grown_new v2 (.cells #[.string ⟨#[97, 120, 105, 115]⟩, .int .i64 2, .bool false, .string ⟨#[107, 101, 101, 112, 100, 105, 109, 115]⟩, .int .i64 2, .bool false] 174)) hg6 (fun g e => by cases e; exact Nat.le_refl _) ho hne
  obtain ⟨r0, r1, r2, f0, f1, f2⟩ := rule_cells b6
  have HX := hide hX
  have HO := hide hO
  have GX := hide gX
  clear hX hO gX b6 ho hg6 hne hat hlt hsk
  go_wp2
  refine bodyPost_ret (ret_rule2 rfl _ _ w.heap.size rfl HX.out) rfl ?_
  exact ⟨⟨_, _, _, rfl, HO.out⟩, GX.out⟩

set_option maxRecDepth 100000 in
set_option maxHeartbeats 1600000 in
theorem rule_Reshape (w : World) (hl : Laid w) :
    Calls Tryz.prog 103 #[.string ⟨#[82, 101, 115, 104, 97, 112, 101]⟩] w fun e w' => Ruled (some (1, 1, [⟨⟨#[115, 104, 97, 112, 101]⟩, 7, true⟩, thenRa])) w' e ∧ w.grownBy w' none := by
  have e1 : isOne ⟨#[82, 101, 115, 104, 97, 112, 101]⟩ = false := by simp only [isOne, bytes_toList]; rfl
  obtain ⟨w0, hw0⟩ : ∃ w0, w0 = w.alloc (.cells #[.int .i64 0, .int .i64 0, .slice none 0 0] 146) := ⟨_, rfl⟩
  have g0 : w.grownBy w0 none := by rw [hw0]; exact grown_new _ _
  have b0 := heap_alloc_new w (.cells #[.int .i64 0, .int .i64 0, .slice none 0 0] 146)
  rw [← hw0] at b0
  have B0 := hide b0
  have OO := hide (ofone_any ⟨#[82, 101, 115, 104, 97, 112, 101]⟩ w0 (hl.more g0))
  rw [e1] at OO
  clear hl b0 e1
  go_enter Tryz.func103, Tryz.ntmps103
  go_wp2_with fail
  rw [← hw0]
  clear hw0
  refine OO.out.mono ?_
  rintro e v0 ⟨rfl, h0⟩
  go_wp2_with fail
  refine (must_any _ _ _).mono ?_
  rintro e v1 ⟨rfl, h1'⟩
  have h1 := grown_trans h0 h1'
  go_wp2_with fail
  refine (takes_any _ _ _ [⟨⟨#[115, 104, 97, 112, 101]⟩, 7, true⟩] _ (Or.inr ⟨_, _, rfl, heap_alloc_new _ _, rfl, rfl⟩) (by decide)).mono ?_
  rintro e w6 ⟨⟨a, n, c, rfl, ho, hat⟩, hg6⟩
  have hlt := (Array.getElem?_eq_some_iff.1 B0.out).1
  have hsk := h1.size
  have hne : (Value.slice a n c).ownBlock ≠ some w.heap.size := fun hh => by
    rcases hat _ hh with h | h
    · have : v1.heap.size = w.heap.size := by simpa [Value.ownBlock] using h
      omega
    · have : v1.heap.size + 1 ≤ w.heap.size := by simpa using h
      omega
  obtain ⟨b6, hX, hO, gX⟩ := rule_put (lo := 1) (hi := 1) g0 B0.out h1 (grown_new v1 (.cells #[.string ⟨#[115, 104, 97, 112, 101]⟩, .int .i64 7, .bool true] 174)) hg6 (fun g e => by cases e; exact Nat.le_refl _) ho hne
  obtain ⟨r0, r1, r2, f0, f1, f2⟩ := rule_cells b6
  have HX := hide hX
  have HO := hide hO
  have GX := hide gX
  clear hX hO gX b6 ho hg6 hne hat hlt hsk
  go_wp2
  refine bodyPost_ret (ret_rule2 rfl _ _ w.heap.size rfl HX.out) rfl ?_
  exact ⟨⟨_, _, _, rfl, HO.out⟩, GX.out⟩

set_option maxRecDepth 100000 in
set_option maxHeartbeats 1600000 in
theorem rule_Expand (w : World) (hl : Laid w) :
    Calls Tryz.prog 103 #[.string ⟨#[69, 120, 112, 97, 110, 100]⟩] w fun e w' => Ruled (some (1, 1, [⟨⟨#[115, 104, 97, 112, 101]⟩, 7, true⟩, thenRa])) w' e ∧ w.grownBy w' none := by
  have e1 : isOne ⟨#[69, 120, 112, 97, 110, 100]⟩ = false := by simp only [isOne, bytes_toList]; rfl
  obtain ⟨w0, hw0⟩ : ∃ w0, w0 = w.alloc (.cells #[.int .i64 0, .int .i64 0, .slice none 0 0] 146) := ⟨_, rfl⟩
  have g0 : w.grownBy w0 none := by rw [hw0]; exact grown_new _ _
  have b0 := heap_alloc_new w (.cells #[.int .i64 0, .int .i64 0, .slice none 0 0] 146)
  rw [← hw0] at b0
  have B0 := hide b0
  have OO := hide (ofone_any ⟨#[69, 120, 112, 97, 110, 100]⟩ w0 (hl.more g0))
  rw [e1] at OO
  clear hl b0 e1
  go_enter Tryz.func103, Tryz.ntmps103
  go_wp2_with fail
  rw [← hw0]
  clear hw0
  refine OO.out.mono ?_
  rintro e v0 ⟨rfl, h0⟩
  go_wp2_with fail
  refine (must_any _ _ _).mono ?_
  rintro e v1 ⟨rfl, h1'⟩
  have h1 := grown_trans h0 h1'
  go_wp2_with fail
  refine (takes_any _ _ _ [⟨⟨#[115, 104, 97, 112, 101]⟩, 7, true⟩] _ (Or.inr ⟨_, _, rfl, heap_alloc_new _ _, rfl, rfl⟩) (by decide)).mono ?_
  rintro e w6 ⟨⟨a, n, c, rfl, ho, hat⟩, hg6⟩
  have hlt := (Array.getElem?_eq_some_iff.1 B0.out).1
  have hsk := h1.size
  have hne : (Value.slice a n c).ownBlock ≠ some w.heap.size := fun hh => by
    rcases hat _ hh with h | h
    · have : v1.heap.size = w.heap.size := by simpa [Value.ownBlock] using h
      omega
    · have : v1.heap.size + 1 ≤ w.heap.size := by simpa using h
      omega
  obtain ⟨b6, hX, hO, gX⟩ := rule_put (lo := 1) (hi := 1) g0 B0.out h1 (grown_new v1 (.cells #[.string ⟨#[115, 104, 97, 112, 101]⟩, .int .i64 7, .bool true] 174)) hg6 (fun g e => by cases e; exact Nat.le_refl _) ho hne
  obtain ⟨r0, r1, r2, f0, f1, f2⟩ := rule_cells b6
  have HX := hide hX
  have HO := hide hO
  have GX := hide gX
  clear hX hO gX b6 ho hg6 hne hat hlt hsk
  go_wp2
  refine bodyPost_ret (ret_rule2 rfl _ _ w.heap.size rfl HX.out) rfl ?_
  exact ⟨⟨_, _, _, rfl, HO.out⟩, GX.out⟩

set_option maxRecDepth 100000 in
set_option maxHeartbeats 1600000 in
theorem rule_Transpose (w : World) (hl : Laid w) :
    Calls Tryz.prog 103 #[.string ⟨#[84, 114, 97, 110, 115, 112, 111, 115, 101]⟩] w fun e w' => Ruled (some (1, 1, [⟨⟨#[112, 101, 114, 109]⟩, 7, false⟩, thenRa])) w' e ∧ w.grownBy w' none := by
  have e1 : isOne ⟨#[84, 114, 97, 110, 115, 112, 111, 115, 101]⟩ = false := by simp only [isOne, bytes_toList]; rfl
  obtain ⟨w0, hw0⟩ : ∃ w0, w0 = w.alloc (.cells #[.int .i64 0, .int .i64 0, .slice none 0 0] 146) := ⟨_, rfl⟩
  have g0 : w.grownBy w0 none := by rw [hw0]; exact grown_new _ _
  have b0 := heap_alloc_new w (.cells #[.int .i64 0, .int .i64 0, .slice none 0 0] 146)
  rw [← hw0] at b0
  have B0 := hide b0
  have OO := hide (ofone_any ⟨#[84, 114, 97, 110, 115, 112, 111, 115, 101]⟩ w0 (hl.more g0))
  rw [e1] at OO
  clear hl b0 e1
  go_enter Tryz.func103, Tryz.ntmps103
  go_wp2_with fail
  rw [← hw0]
  clear hw0
  refine OO.out.mono ?_
  rintro e v0 ⟨rfl, h0⟩
  go_wp2_with fail
  refine (may_any _ _ _).mono ?_
  rintro e v1 ⟨rfl, h1'⟩
  have h1 := grown_trans h0 h1'
  go_wp2_with fail
  refine (takes_any _ _ _ [⟨⟨#[112, 101, 114, 109]⟩, 7, false⟩] _ (Or.inr ⟨_, _, rfl, heap_alloc_new _ _, rfl, rfl⟩) (by decide)).mono ?_
  rintro e w6 ⟨⟨a, n, c, rfl, ho, hat⟩, hg6⟩
  have hlt := (Array.getElem?_eq_some_iff.1 B0.out).1
  have hsk := h1.size
  have hne : (Value.slice a n c).ownBlock ≠ some w.heap.size := fun hh => by
    rcases hat _ hh with h | h
    · have : v1.heap.size = w.heap.size := by simpa [Value.ownBlock] using h
      omega
    · have : v1.heap.size + 1 ≤ w.heap.size := by simpa using h
      omega
  obtain ⟨b6, hX, hO, gX⟩ := rule_put (lo := 1) (hi := 1) g0 B0.out h1 (grown_new v1 (.cells #[.string ⟨#[112, 101, 114, 109]⟩, .int .i64 7, .bool false] 174)) hg6 (fun g e => by cases e; exact Nat.le_refl _) ho hne
  obtain ⟨r0, r1, r2, f0, f1, f2⟩ := rule_cells b6
  have HX := hide hX
  have HO := hide hO
  have GX := hide gX
  clear hX hO gX b6 ho hg6 hne hat hlt hsk
  go_wp2
  refine bodyPost_ret (ret_rule2 rfl _ _ w.heap.size rfl HX.out) rfl ?_
  exact ⟨⟨_, _, _, rfl, HO.out⟩, GX.out⟩

set_option maxRecDepth 100000 in
set_option maxHeartbeats 1600000 in
theorem rule_Concat (w : World) (hl : Laid w) :
    Calls Tryz.prog 103 #[.string ⟨#[67, 111, 110, 99, 97, 116]⟩] w fun e w' => Ruled (some (1, 20, [⟨⟨#[97, 120, 105, 115]⟩, 2, true⟩, thenRa])) w' e ∧ w.grownBy w' none := by
  have e1 : isOne ⟨#[67, 111, 110, 99, 97, 116]⟩ = false := by simp only [isOne, bytes_toList]; rfl
  obtain ⟨w0, hw0⟩ : ∃ w0, w0 = w.alloc (.cells #[.int .i64 0, .int .i64 0, .slice none 0 0] 146) := ⟨_, rfl⟩
  have g0 : w.grownBy w0 none := by rw [hw0]; exact grown_new _ _
  have b0 := heap_alloc_new w (.cells #[.int .i64 0, .int .i64 0, .slice none 0 0] 146)
  rw [← hw0] at b0
  have B0 := hide b0
  have OO := hide (ofone_any ⟨#[67, 111, 110, 99, 97, 116]⟩ w0 (hl.more g0))
  rw [e1] at OO
  clear hl b0 e1
  go_enter Tryz.func103, Tryz.ntmps103
  go_wp2_with fail
  rw [← hw0]
  clear hw0
  refine OO.out.mono ?_
  rintro e v0 ⟨rfl, h0⟩
  go_wp2_with fail
  refine (must_any _ _ _).mono ?_
  rintro e v1 ⟨rfl, h1'⟩
  have h1 := grown_trans h0 h1'
  go_wp2_with fail
  refine (takes_any _ _ _ [⟨⟨#[97, 120, 105, 115]⟩, 2, true⟩] _ (Or.inr ⟨_, _, rfl, heap_alloc_new _ _, rfl, rfl⟩) (by decide)).mono ?_
  rintro e w6 ⟨⟨a, n, c, rfl, ho, hat⟩, hg6⟩
  have hlt := (Array.getElem?_eq_some_iff.1 B0.out).1
  have hsk := h1.size
  have hne : (Value.slice a n c).ownBlock ≠ some w.heap.size := fun hh => by
    rcases hat _ hh with h | h
    · have : v1.heap.size = w.heap.size := by simpa [Value.ownBlock] using h
      omega
    · have : v1.heap.size + 1 ≤ w.heap.size := by simpa using h
      omega
  obtain ⟨b6, hX, hO, gX⟩ := rule_put (lo := 1) (hi := 20) g0 B0.out h1 (grown_new v1 (.cells #[.string ⟨#[97, 120, 105, 115]⟩, .int .i64 2, .bool true] 174)) hg6 (fun g e => by cases e; exact Nat.le_refl _) ho hne
  obtain ⟨r0, r1, r2, f0, f1, f2⟩ := rule_cells b6
  have HX := hide hX
  have HO := hide hO
  have GX := hide gX
  clear hX hO gX b6 ho hg6 hne hat hlt hsk
  go_wp2
  refine bodyPost_ret (ret_rule2 rfl _ _ w.heap.size rfl HX.out) rfl ?_
  exact ⟨⟨_, _, _, rfl, HO.out⟩, GX.out⟩

set_option maxRecDepth 100000 in
set_option maxHeartbeats 1600000 in
theorem rule_Slice (w : World) (hl : Laid w) :
    Calls Tryz.prog 103 #[.string ⟨#[83, 108, 105, 99, 101]⟩] w fun e w' => Ruled (some (1, 1, [⟨⟨#[115, 116, 97, 114, 116, 115]⟩, 7, true⟩, ⟨⟨#[101, 110, 100, 115]⟩, 7, true⟩, ⟨⟨#[97, 120, 101, 115]⟩, 7, false⟩, thenRa])) w' e ∧ w.grownBy w' none := by
  have e1 : isOne ⟨#[83, 108, 105, 99, 101]⟩ = false := by simp only [isOne, bytes_toList]; rfl
  obtain ⟨w0, hw0⟩ : ∃ w0, w0 = w.alloc (.cells #[.int .i64 0, .int .i64 0, .slice none 0 0] 146) := ⟨_, rfl⟩
  have g0 : w.grownBy w0 none := by rw [hw0]; exact grown_new _ _
  have b0 := heap_alloc_new w (.cells #[.int .i64 0, .int .i64 0, .slice none 0 0] 146)
  rw [← hw0] at b0
  have B0 := hide b0
  have OO := hide (ofone_any ⟨#[83, 108, 105, 99, 101]⟩ w0 (hl.more g0))
  rw [e1] at OO
  clear hl b0 e1
  go_enter Tryz.func103, Tryz.ntmps103
  go_wp2_with fail
  rw [← hw0]
  clear hw0
  refine OO.out.mono ?_
  rintro e v0 ⟨rfl, h0⟩
  go_wp2_with fail
  refine (must_any _ _ _).mono ?_
  rintro e v1 ⟨rfl, h1'⟩
  have h1 := grown_trans h0 h1'
  go_wp2_with fail
  refine (must_any _ _ _).mono ?_
  rintro e v2 ⟨rfl, h2'⟩
  have h2 := grown_trans h1 h2'
  go_wp2_with fail
  refine (may_any _ _ _).mono ?_
  rintro e v3 ⟨rfl, h3'⟩
  have h3 := grown_trans h2 h3'
  go_wp2_with fail
  refine (takes_any _ _ _ [⟨⟨#[115, 116, 97, 114, 116, 115]⟩, 7, true⟩, ⟨⟨#[101, 110, 100, 115]⟩, 7, true⟩, ⟨⟨#[97, 120, 101, 115]⟩, 7, false⟩] _ (Or.inr ⟨_, _, rfl, heap_alloc_new _ _, rfl, rfl⟩) (by decide)).mono ?_
  rintro e w6 ⟨⟨a, n, c, rfl, ho, hat⟩, hg6⟩
  have hlt := (Array.getElem?_eq_some_iff.1 B0.out).1
  have hsk := h3.size
  have hne : (Value.slice a n c).ownBlock ≠ some w.heap.size := fun hh => by
    rcases hat _ hh with h | h
    · have : v3.heap.size = w.heap.size := by simpa [Value.ownBlock] using h
      omega
    · have : v3.heap.size + 1 ≤ w.heap.size := by simpa using h
      omega
  obtain ⟨b6, hX, hO, gX⟩ := rule_put (lo := 1) (hi := 1) g0 B0.out h3 (grown_new v3 (.cells #[.string ⟨#[115, 116, 97, 114, 116, 115]⟩, .int .i64 7, .bool true, .string ⟨#[101, 110, 100, 115]⟩, .int .i64 7, .bool true, .string ⟨#[97, 120, 101, 115]⟩, .int .i64 7, .bool false] 174)) hg6 (fun g e => by cases e; exact Nat.le_refl _) ho hne
  obtain ⟨r0, r1, r2, f0, f1, f2⟩ := rule_cells b6
  have HX := hide hX
  have HO := hide hO
  have GX := hide gX
  clear hX hO gX b6 ho hg6 hne hat hlt hsk
  go_wp2
  refine bodyPost_ret (ret_rule2 rfl _ _ w.heap.size rfl HX.out) rfl ?_
  exact ⟨⟨_, _, _, rfl, HO.out⟩, GX.out⟩

set_option maxRecDepth 100000 in
set_option maxHeartbeats 1600000 in
theorem rule_Gather (w : World) (hl : Laid w) :
    Calls Tryz.prog 103 #[.string ⟨#[71, 97, 116, 104, 101, 114]⟩] w fun e w' => Ruled (some (2, 2, [⟨⟨#[97, 120, 105, 115]⟩, 2, false⟩, thenRa])) w' e ∧ w.grownBy w' none := by
  have e1 : isOne ⟨#[71, 97, 116, 104, 101, 114]⟩ = false := by simp only [isOne, bytes_toList]; rfl
  obtain ⟨w0, hw0⟩ : ∃ w0, w0 = w.alloc (.cells #[.int .i64 0, .int .i64 0, .slice none 0 0] 146) := ⟨_, rfl⟩
  have g0 : w.grownBy w0 none := by rw [hw0]; exact grown_new _ _
  have b0 := heap_alloc_new w (.cells #[.int .i64 0, .int .i64 0, .slice none 0 0] 146)
  rw [← hw0] at b0
  have B0 := hide b0
  have OO := hide (ofone_any ⟨#[71, 97, 116, 104, 101, 114]⟩ w0 (hl.more g0))
  rw [e1] at OO
  clear hl b0 e1
  go_enter Tryz.func103, Tryz.ntmps103
  go_wp2_with fail
  rw [← hw0]
  clear hw0
  refine OO.out.mono ?_
  rintro e v0 ⟨rfl, h0⟩
  go_wp2_with fail
  refine (may_any _ _ _).mono ?_
  rintro e v1 ⟨rfl, h1'⟩
  have h1 := grown_trans h0 h1'
  go_wp2_with fail
  refine (takes_any _ _ _ [⟨⟨#[97, 120, 105, 115]⟩, 2, false⟩] _ (Or.inr ⟨_, _, rfl, heap_alloc_new _ _, rfl, rfl⟩) (by decide)).mono ?_
  rintro e w6 ⟨⟨a, n, c, rfl, ho, hat⟩, hg6⟩
  have hlt := (Array.getElem?_eq_some_iff.1 B0.out).1
  have hsk := h1.size
  have hne : (Value.slice a n c).ownBlock ≠ some w.heap.size := fun hh => by
    rcases hat _ hh with h | h
    · have : v1.heap.size = w.heap.size := by simpa [Value.ownBlock] using h
      omega
    · have : v1.heap.size + 1 ≤ w.heap.size := by simpa using h
      omega
  obtain ⟨b6, hX, hO, gX⟩ := rule_put (lo := 2) (hi := 2) g0 B0.out h1 (grown_new v1 (.cells #[.string ⟨#[97, 120, 105, 115]⟩, .int .i64 2, .bool false] 174)) hg6 (fun g e => by cases e; exact Nat.le_refl _) ho hne
  obtain ⟨r0, r1, r2, f0, f1, f2⟩ := rule_cells b6
  have HX := hide hX
  have HO := hide hO
  have GX := hide gX
  clear hX hO gX b6 ho hg6 hne hat hlt hsk
  go_wp2
  refine bodyPost_ret (ret_rule2 rfl _ _ w.heap.size rfl HX.out) rfl ?_
  exact ⟨⟨_, _, _, rfl, HO.out⟩, GX.out⟩

end Go.Proofs.YtfladhogkhhlcaaGreatDoor

/- What an operator takes, operator by operator (mkRule.py). -/
namespace Go.Proofs.YtfladhogkhhlcaaGreatDoor
open Go.RowKit

set_option maxRecDepth 100000 in
set_option maxHeartbeats 1600000 in
theorem rule_Pad (w : World) (hl : Laid w) :
    Calls Tryz.prog 103 #[.string ⟨#[80, 97, 100]⟩] w fun e w' => Ruled (some (1, 1, [⟨⟨#[112, 97, 100, 115]⟩, 7, true⟩, ⟨⟨#[118, 97, 108, 117, 101]⟩, 1, false⟩, thenRa])) w' e ∧ w.grownBy w' none := by
  have e1 : isOne ⟨#[80, 97, 100]⟩ = false := by simp only [isOne, bytes_toList]; rfl
  obtain ⟨w0, hw0⟩ : ∃ w0, w0 = w.alloc (.cells #[.int .i64 0, .int .i64 0, .slice none 0 0] 146) := ⟨_, rfl⟩
  have g0 : w.grownBy w0 none := by rw [hw0]; exact grown_new _ _
  have b0 := heap_alloc_new w (.cells #[.int .i64 0, .int .i64 0, .slice none 0 0] 146)
  rw [← hw0] at b0
  have B0 := hide b0
  have OO := hide (ofone_any ⟨#[80, 97, 100]⟩ w0 (hl.more g0))
  rw [e1] at OO
  clear hl b0 e1
  go_enter Tryz.func103, Tryz.ntmps103
  go_wp2_with fail
  rw [← hw0]
  clear hw0
  refine OO.out.mono ?_
  rintro e v0 ⟨rfl, h0⟩
  go_wp2_with fail
  refine (must_any _ _ _).mono ?_
  rintro e v1 ⟨rfl, h1'⟩
  have h1 := grown_trans h0 h1'
  go_wp2_with fail
  refine (may_any _ _ _).mono ?_
  rintro e v2 ⟨rfl, h2'⟩
  have h2 := grown_trans h1 h2'
  go_wp2_with fail
  refine (takes_any _ _ _ [⟨⟨#[112, 97, 100, 115]⟩, 7, true⟩, ⟨⟨#[118, 97, 108, 117, 101]⟩, 1, false⟩] _ (Or.inr ⟨_, _, rfl, heap_alloc_new _ _, rfl, rfl⟩) (by decide)).mono ?_
  rintro e w6 ⟨⟨a, n, c, rfl, ho, hat⟩, hg6⟩
  have hlt := (Array.getElem?_eq_some_iff.1 B0.out).1
  have hsk := h2.size
  have hne : (Value.slice a n c).ownBlock ≠ some w.heap.size := fun hh => by
    rcases hat _ hh with h | h
    · have : v2.heap.size = w.heap.size := by simpa [Value.ownBlock] using h
      omega
    · have : v2.heap.size + 1 ≤ w.heap.size := by simpa using h
      omega
  obtain ⟨b6, hX, hO, gX⟩ := rule_put (lo := 1) (hi := 1) g0 B0.out h2 (grown_new v2 (.cells #[.string ⟨#[112, 97, 100, 115]⟩, .int .i64 7, .bool true, .string ⟨#[118, 97, 108, 117, 101]⟩, .int .i64 1, .bool false] 174)) hg6 (fun g e => by cases e; exact Nat.le_refl _) ho hne
  obtain ⟨r0, r1, r2, f0, f1, f2⟩ := rule_cells b6
  have HX := hide hX
  have HO := hide hO
  have GX := hide gX
  clear hX hO gX b6 ho hg6 hne hat hlt hsk
  go_wp2
  refine bodyPost_ret (ret_rule2 rfl _ _ w.heap.size rfl HX.out) rfl ?_
  exact ⟨⟨_, _, _, rfl, HO.out⟩, GX.out⟩

set_option maxRecDepth 100000 in
set_option maxHeartbeats 1600000 in
theorem rule_Squeeze (w : World) (hl : Laid w) :
    Calls Tryz.prog 103 #[.string ⟨#[83, 113, 117, 101, 101, 122, 101]⟩] w fun e w' => Ruled (some (1, 1, [⟨⟨#[97, 120, 101, 115]⟩, 7, true⟩, thenRa])) w' e ∧ w.grownBy w' none := by
  have e1 : isOne ⟨#[83, 113, 117, 101, 101, 122, 101]⟩ = false := by simp only [isOne, bytes_toList]; rfl
  obtain ⟨w0, hw0⟩ : ∃ w0, w0 = w.alloc (.cells #[.int .i64 0, .int .i64 0, .slice none 0 0] 146) := ⟨_, rfl⟩
  have g0 : w.grownBy w0 none := by rw [hw0]; exact grown_new _ _
  have b0 := heap_alloc_new w (.cells #[.int .i64 0, .int .i64 0, .slice none 0 0] 146)
  rw [← hw0] at b0
  have B0 := hide b0
  have OO := hide (ofone_any ⟨#[83, 113, 117, 101, 101, 122, 101]⟩ w0 (hl.more g0))
  rw [e1] at OO
  clear hl b0 e1
  go_enter Tryz.func103, Tryz.ntmps103
  go_wp2_with fail
  rw [← hw0]
  clear hw0
  refine OO.out.mono ?_
  rintro e v0 ⟨rfl, h0⟩
  go_wp2_with fail
  refine (must_any _ _ _).mono ?_
  rintro e v1 ⟨rfl, h1'⟩
  have h1 := grown_trans h0 h1'
  go_wp2_with fail
  refine (takes_any _ _ _ [⟨⟨#[97, 120, 101, 115]⟩, 7, true⟩] _ (Or.inr ⟨_, _, rfl, heap_alloc_new _ _, rfl, rfl⟩) (by decide)).mono ?_
  rintro e w6 ⟨⟨a, n, c, rfl, ho, hat⟩, hg6⟩
  have hlt := (Array.getElem?_eq_some_iff.1 B0.out).1
  have hsk := h1.size
  have hne : (Value.slice a n c).ownBlock ≠ some w.heap.size := fun hh => by
    rcases hat _ hh with h | h
    · have : v1.heap.size = w.heap.size := by simpa [Value.ownBlock] using h
      omega
    · have : v1.heap.size + 1 ≤ w.heap.size := by simpa using h
      omega
  obtain ⟨b6, hX, hO, gX⟩ := rule_put (lo := 1) (hi := 1) g0 B0.out h1 (grown_new v1 (.cells #[.string ⟨#[97, 120, 101, 115]⟩, .int .i64 7, .bool true] 174)) hg6 (fun g e => by cases e; exact Nat.le_refl _) ho hne
  obtain ⟨r0, r1, r2, f0, f1, f2⟩ := rule_cells b6
  have HX := hide hX
  have HO := hide hO
  have GX := hide gX
  clear hX hO gX b6 ho hg6 hne hat hlt hsk
  go_wp2
  refine bodyPost_ret (ret_rule2 rfl _ _ w.heap.size rfl HX.out) rfl ?_
  exact ⟨⟨_, _, _, rfl, HO.out⟩, GX.out⟩

set_option maxRecDepth 100000 in
set_option maxHeartbeats 1600000 in
theorem rule_Unsqueeze (w : World) (hl : Laid w) :
    Calls Tryz.prog 103 #[.string ⟨#[85, 110, 115, 113, 117, 101, 101, 122, 101]⟩] w fun e w' => Ruled (some (1, 1, [⟨⟨#[97, 120, 101, 115]⟩, 7, true⟩, thenRa])) w' e ∧ w.grownBy w' none := by
  have e1 : isOne ⟨#[85, 110, 115, 113, 117, 101, 101, 122, 101]⟩ = false := by simp only [isOne, bytes_toList]; rfl
  obtain ⟨w0, hw0⟩ : ∃ w0, w0 = w.alloc (.cells #[.int .i64 0, .int .i64 0, .slice none 0 0] 146) := ⟨_, rfl⟩
  have g0 : w.grownBy w0 none := by rw [hw0]; exact grown_new _ _
  have b0 := heap_alloc_new w (.cells #[.int .i64 0, .int .i64 0, .slice none 0 0] 146)
  rw [← hw0] at b0
  have B0 := hide b0
  have OO := hide (ofone_any ⟨#[85, 110, 115, 113, 117, 101, 101, 122, 101]⟩ w0 (hl.more g0))
  rw [e1] at OO
  clear hl b0 e1
  go_enter Tryz.func103, Tryz.ntmps103
  go_wp2_with fail
  rw [← hw0]
  clear hw0
  refine OO.out.mono ?_
  rintro e v0 ⟨rfl, h0⟩
  go_wp2_with fail
  refine (must_any _ _ _).mono ?_
  rintro e v1 ⟨rfl, h1'⟩
  have h1 := grown_trans h0 h1'
  go_wp2_with fail
  refine (takes_any _ _ _ [⟨⟨#[97, 120, 101, 115]⟩, 7, true⟩] _ (Or.inr ⟨_, _, rfl, heap_alloc_new _ _, rfl, rfl⟩) (by decide)).mono ?_
  rintro e w6 ⟨⟨a, n, c, rfl, ho, hat⟩, hg6⟩
  have hlt := (Array.getElem?_eq_some_iff.1 B0.out).1
  have hsk := h1.size
  have hne : (Value.slice a n c).ownBlock ≠ some w.heap.size := fun hh => by
    rcases hat _ hh with h | h
    · have : v1.heap.size = w.heap.size := by simpa [Value.ownBlock] using h
      omega
    · have : v1.heap.size + 1 ≤ w.heap.size := by simpa using h
      omega
  obtain ⟨b6, hX, hO, gX⟩ := rule_put (lo := 1) (hi := 1) g0 B0.out h1 (grown_new v1 (.cells #[.string ⟨#[97, 120, 101, 115]⟩, .int .i64 7, .bool true] 174)) hg6 (fun g e => by cases e; exact Nat.le_refl _) ho hne
  obtain ⟨r0, r1, r2, f0, f1, f2⟩ := rule_cells b6
  have HX := hide hX
  have HO := hide hO
  have GX := hide gX
  clear hX hO gX b6 ho hg6 hne hat hlt hsk
  go_wp2
  refine bodyPost_ret (ret_rule2 rfl _ _ w.heap.size rfl HX.out) rfl ?_
  exact ⟨⟨_, _, _, rfl, HO.out⟩, GX.out⟩

set_option maxRecDepth 100000 in
set_option maxHeartbeats 1600000 in
theorem rule_Flatten (w : World) (hl : Laid w) :
    Calls Tryz.prog 103 #[.string ⟨#[70, 108, 97, 116, 116, 101, 110]⟩] w fun e w' => Ruled (some (1, 1, [⟨⟨#[97, 120, 105, 115]⟩, 2, false⟩, thenRa])) w' e ∧ w.grownBy w' none := by
  have e1 : isOne ⟨#[70, 108, 97, 116, 116, 101, 110]⟩ = false := by simp only [isOne, bytes_toList]; rfl
  obtain ⟨w0, hw0⟩ : ∃ w0, w0 = w.alloc (.cells #[.int .i64 0, .int .i64 0, .slice none 0 0] 146) := ⟨_, rfl⟩
  have g0 : w.grownBy w0 none := by rw [hw0]; exact grown_new _ _
  have b0 := heap_alloc_new w (.cells #[.int .i64 0, .int .i64 0, .slice none 0 0] 146)
  rw [← hw0] at b0
  have B0 := hide b0
  have OO := hide (ofone_any ⟨#[70, 108, 97, 116, 116, 101, 110]⟩ w0 (hl.more g0))
  rw [e1] at OO
  clear hl b0 e1
  go_enter Tryz.func103, Tryz.ntmps103
  go_wp2_with fail
  rw [← hw0]
  clear hw0
  refine OO.out.mono ?_
  rintro e v0 ⟨rfl, h0⟩
  go_wp2_with fail
  refine (may_any _ _ _).mono ?_
  rintro e v1 ⟨rfl, h1'⟩
  have h1 := grown_trans h0 h1'
  go_wp2_with fail
  refine (takes_any _ _ _ [⟨⟨#[97, 120, 105, 115]⟩, 2, false⟩] _ (Or.inr ⟨_, _, rfl, heap_alloc_new _ _, rfl, rfl⟩) (by decide)).mono ?_
  rintro e w6 ⟨⟨a, n, c, rfl, ho, hat⟩, hg6⟩
  have hlt := (Array.getElem?_eq_some_iff.1 B0.out).1
  have hsk := h1.size
  have hne : (Value.slice a n c).ownBlock ≠ some w.heap.size := fun hh => by
    rcases hat _ hh with h | h
    · have : v1.heap.size = w.heap.size := by simpa [Value.ownBlock] using h
      omega
    · have : v1.heap.size + 1 ≤ w.heap.size := by simpa using h
      omega
  obtain ⟨b6, hX, hO, gX⟩ := rule_put (lo := 1) (hi := 1) g0 B0.out h1 (grown_new v1 (.cells #[.string ⟨#[97, 120, 105, 115]⟩, .int .i64 2, .bool false] 174)) hg6 (fun g e => by cases e; exact Nat.le_refl _) ho hne
  obtain ⟨r0, r1, r2, f0, f1, f2⟩ := rule_cells b6
  have HX := hide hX
  have HO := hide hO
  have GX := hide gX
  clear hX hO gX b6 ho hg6 hne hat hlt hsk
  go_wp2
  refine bodyPost_ret (ret_rule2 rfl _ _ w.heap.size rfl HX.out) rfl ?_
  exact ⟨⟨_, _, _, rfl, HO.out⟩, GX.out⟩

set_option maxRecDepth 100000 in
set_option maxHeartbeats 1600000 in
theorem rule_Softmax (w : World) (hl : Laid w) :
    Calls Tryz.prog 103 #[.string ⟨#[83, 111, 102, 116, 109, 97, 120]⟩] w fun e w' => Ruled (some (1, 1, [⟨⟨#[97, 120, 105, 115]⟩, 2, false⟩, thenRa])) w' e ∧ w.grownBy w' none := by
  have e1 : isOne ⟨#[83, 111, 102, 116, 109, 97, 120]⟩ = false := by simp only [isOne, bytes_toList]; rfl
  obtain ⟨w0, hw0⟩ : ∃ w0, w0 = w.alloc (.cells #[.int .i64 0, .int .i64 0, .slice none 0 0] 146) := ⟨_, rfl⟩
  have g0 : w.grownBy w0 none := by rw [hw0]; exact grown_new _ _
  have b0 := heap_alloc_new w (.cells #[.int .i64 0, .int .i64 0, .slice none 0 0] 146)
  rw [← hw0] at b0
  have B0 := hide b0
  have OO := hide (ofone_any ⟨#[83, 111, 102, 116, 109, 97, 120]⟩ w0 (hl.more g0))
  rw [e1] at OO
  clear hl b0 e1
  go_enter Tryz.func103, Tryz.ntmps103
  go_wp2_with fail
  rw [← hw0]
  clear hw0
  refine OO.out.mono ?_
  rintro e v0 ⟨rfl, h0⟩
  go_wp2_with fail
  refine (may_any _ _ _).mono ?_
  rintro e v1 ⟨rfl, h1'⟩
  have h1 := grown_trans h0 h1'
  go_wp2_with fail
  refine (takes_any _ _ _ [⟨⟨#[97, 120, 105, 115]⟩, 2, false⟩] _ (Or.inr ⟨_, _, rfl, heap_alloc_new _ _, rfl, rfl⟩) (by decide)).mono ?_
  rintro e w6 ⟨⟨a, n, c, rfl, ho, hat⟩, hg6⟩
  have hlt := (Array.getElem?_eq_some_iff.1 B0.out).1
  have hsk := h1.size
  have hne : (Value.slice a n c).ownBlock ≠ some w.heap.size := fun hh => by
    rcases hat _ hh with h | h
    · have : v1.heap.size = w.heap.size := by simpa [Value.ownBlock] using h
      omega
    · have : v1.heap.size + 1 ≤ w.heap.size := by simpa using h
      omega
  obtain ⟨b6, hX, hO, gX⟩ := rule_put (lo := 1) (hi := 1) g0 B0.out h1 (grown_new v1 (.cells #[.string ⟨#[97, 120, 105, 115]⟩, .int .i64 2, .bool false] 174)) hg6 (fun g e => by cases e; exact Nat.le_refl _) ho hne
  obtain ⟨r0, r1, r2, f0, f1, f2⟩ := rule_cells b6
  have HX := hide hX
  have HO := hide hO
  have GX := hide gX
  clear hX hO gX b6 ho hg6 hne hat hlt hsk
  go_wp2
  refine bodyPost_ret (ret_rule2 rfl _ _ w.heap.size rfl HX.out) rfl ?_
  exact ⟨⟨_, _, _, rfl, HO.out⟩, GX.out⟩

set_option maxRecDepth 100000 in
set_option maxHeartbeats 1600000 in
theorem rule_Gemm (w : World) (hl : Laid w) :
    Calls Tryz.prog 103 #[.string ⟨#[71, 101, 109, 109]⟩] w fun e w' => Ruled (some (2, 3, [⟨⟨#[116, 114, 97, 110, 115, 65]⟩, 2, false⟩, ⟨⟨#[116, 114, 97, 110, 115, 66]⟩, 2, false⟩, ⟨⟨#[97, 108, 112, 104, 97]⟩, 1, false⟩, ⟨⟨#[98, 101, 116, 97]⟩, 1, false⟩, thenRa])) w' e ∧ w.grownBy w' none := by
  have e1 : isOne ⟨#[71, 101, 109, 109]⟩ = false := by simp only [isOne, bytes_toList]; rfl
  obtain ⟨w0, hw0⟩ : ∃ w0, w0 = w.alloc (.cells #[.int .i64 0, .int .i64 0, .slice none 0 0] 146) := ⟨_, rfl⟩
  have g0 : w.grownBy w0 none := by rw [hw0]; exact grown_new _ _
  have b0 := heap_alloc_new w (.cells #[.int .i64 0, .int .i64 0, .slice none 0 0] 146)
  rw [← hw0] at b0
  have B0 := hide b0
  have OO := hide (ofone_any ⟨#[71, 101, 109, 109]⟩ w0 (hl.more g0))
  rw [e1] at OO
  clear hl b0 e1
  go_enter Tryz.func103, Tryz.ntmps103
  go_wp2_with fail
  rw [← hw0]
  clear hw0
  refine OO.out.mono ?_
  rintro e v0 ⟨rfl, h0⟩
  go_wp2_with fail
  refine (may_any _ _ _).mono ?_
  rintro e v1 ⟨rfl, h1'⟩
  have h1 := grown_trans h0 h1'
  go_wp2_with fail
  refine (may_any _ _ _).mono ?_
  rintro e v2 ⟨rfl, h2'⟩
  have h2 := grown_trans h1 h2'
  go_wp2_with fail
  refine (may_any _ _ _).mono ?_
  rintro e v3 ⟨rfl, h3'⟩
  have h3 := grown_trans h2 h3'
  go_wp2_with fail
  refine (may_any _ _ _).mono ?_
  rintro e v4 ⟨rfl, h4'⟩
  have h4 := grown_trans h3 h4'
  go_wp2_with fail
  refine (takes_any _ _ _ [⟨⟨#[116, 114, 97, 110, 115, 65]⟩, 2, false⟩, ⟨⟨#[116, 114, 97, 110, 115, 66]⟩, 2, false⟩, ⟨⟨#[97, 108, 112, 104, 97]⟩, 1, false⟩, ⟨⟨#[98, 101, 116, 97]⟩, 1, false⟩] _ (Or.inr ⟨_, _, rfl, heap_alloc_new _ _, rfl, rfl⟩) (by decide)).mono ?_
  rintro e w6 ⟨⟨a, n, c, rfl, ho, hat⟩, hg6⟩
  have hlt := (Array.getElem?_eq_some_iff.1 B0.out).1
  have hsk := h4.size
  have hne : (Value.slice a n c).ownBlock ≠ some w.heap.size := fun hh => by
    rcases hat _ hh with h | h
    · have : v4.heap.size = w.heap.size := by simpa [Value.ownBlock] using h
      omega
    · have : v4.heap.size + 1 ≤ w.heap.size := by simpa using h
      omega
  obtain ⟨b6, hX, hO, gX⟩ := rule_put (lo := 2) (hi := 3) g0 B0.out h4 (grown_new v4 (.cells #[.string ⟨#[116, 114, 97, 110, 115, 65]⟩, .int .i64 2, .bool false, .string ⟨#[116, 114, 97, 110, 115, 66]⟩, .int .i64 2, .bool false, .string ⟨#[97, 108, 112, 104, 97]⟩, .int .i64 1, .bool false, .string ⟨#[98, 101, 116, 97]⟩, .int .i64 1, .bool false] 174)) hg6 (fun g e => by cases e; exact Nat.le_refl _) ho hne
  obtain ⟨r0, r1, r2, f0, f1, f2⟩ := rule_cells b6
  have HX := hide hX
  have HO := hide hO
  have GX := hide gX
  clear hX hO gX b6 ho hg6 hne hat hlt hsk
  go_wp2
  refine bodyPost_ret (ret_rule2 rfl _ _ w.heap.size rfl HX.out) rfl ?_
  exact ⟨⟨_, _, _, rfl, HO.out⟩, GX.out⟩

set_option maxRecDepth 100000 in
set_option maxHeartbeats 1600000 in
theorem rule_Conv (w : World) (hl : Laid w) :
    Calls Tryz.prog 103 #[.string ⟨#[67, 111, 110, 118]⟩] w fun e w' => Ruled (some (2, 3, [⟨⟨#[115, 116, 114, 105, 100, 101, 115]⟩, 7, false⟩, ⟨⟨#[112, 97, 100, 115]⟩, 7, false⟩, ⟨⟨#[100, 105, 108, 97, 116, 105, 111, 110, 115]⟩, 7, false⟩, ⟨⟨#[103, 114, 111, 117, 112]⟩, 2, false⟩, thenRa])) w' e ∧ w.grownBy w' none := by
  have e1 : isOne ⟨#[67, 111, 110, 118]⟩ = false := by simp only [isOne, bytes_toList]; rfl
  obtain ⟨w0, hw0⟩ : ∃ w0, w0 = w.alloc (.cells #[.int .i64 0, .int .i64 0, .slice none 0 0] 146) := ⟨_, rfl⟩
  have g0 : w.grownBy w0 none := by rw [hw0]; exact grown_new _ _
  have b0 := heap_alloc_new w (.cells #[.int .i64 0, .int .i64 0, .slice none 0 0] 146)
  rw [← hw0] at b0
  have B0 := hide b0
  have OO := hide (ofone_any ⟨#[67, 111, 110, 118]⟩ w0 (hl.more g0))
  rw [e1] at OO
  clear hl b0 e1
  go_enter Tryz.func103, Tryz.ntmps103
  go_wp2_with fail
  rw [← hw0]
  clear hw0
  refine OO.out.mono ?_
  rintro e v0 ⟨rfl, h0⟩
  go_wp2_with fail
  refine (may_any _ _ _).mono ?_
  rintro e v1 ⟨rfl, h1'⟩
  have h1 := grown_trans h0 h1'
  go_wp2_with fail
  refine (may_any _ _ _).mono ?_
  rintro e v2 ⟨rfl, h2'⟩
  have h2 := grown_trans h1 h2'
  go_wp2_with fail
  refine (may_any _ _ _).mono ?_
  rintro e v3 ⟨rfl, h3'⟩
  have h3 := grown_trans h2 h3'
  go_wp2_with fail
  refine (may_any _ _ _).mono ?_
  rintro e v4 ⟨rfl, h4'⟩
  have h4 := grown_trans h3 h4'
  go_wp2_with fail
  refine (takes_any _ _ _ [⟨⟨#[115, 116, 114, 105, 100, 101, 115]⟩, 7, false⟩, ⟨⟨#[112, 97, 100, 115]⟩, 7, false⟩, ⟨⟨#[100, 105, 108, 97, 116, 105, 111, 110, 115]⟩, 7, false⟩, ⟨⟨#[103, 114, 111, 117, 112]⟩, 2, false⟩] _ (Or.inr ⟨_, _, rfl, heap_alloc_new _ _, rfl, rfl⟩) (by decide)).mono ?_
  rintro e w6 ⟨⟨a, n, c, rfl, ho, hat⟩, hg6⟩
  have hlt := (Array.getElem?_eq_some_iff.1 B0.out).1
  have hsk := h4.size
  have hne : (Value.slice a n c).ownBlock ≠ some w.heap.size := fun hh => by
    rcases hat _ hh with h | h
    · have : v4.heap.size = w.heap.size := by simpa [Value.ownBlock] using h
      omega
    · have : v4.heap.size + 1 ≤ w.heap.size := by simpa using h
      omega
  obtain ⟨b6, hX, hO, gX⟩ := rule_put (lo := 2) (hi := 3) g0 B0.out h4 (grown_new v4 (.cells #[.string ⟨#[115, 116, 114, 105, 100, 101, 115]⟩, .int .i64 7, .bool false, .string ⟨#[112, 97, 100, 115]⟩, .int .i64 7, .bool false, .string ⟨#[100, 105, 108, 97, 116, 105, 111, 110, 115]⟩, .int .i64 7, .bool false, .string ⟨#[103, 114, 111, 117, 112]⟩, .int .i64 2, .bool false] 174)) hg6 (fun g e => by cases e; exact Nat.le_refl _) ho hne
  obtain ⟨r0, r1, r2, f0, f1, f2⟩ := rule_cells b6
  have HX := hide hX
  have HO := hide hO
  have GX := hide gX
  clear hX hO gX b6 ho hg6 hne hat hlt hsk
  go_wp2
  refine bodyPost_ret (ret_rule2 rfl _ _ w.heap.size rfl HX.out) rfl ?_
  exact ⟨⟨_, _, _, rfl, HO.out⟩, GX.out⟩

set_option maxRecDepth 100000 in
set_option maxHeartbeats 1600000 in
theorem rule_MaxPool (w : World) (hl : Laid w) :
    Calls Tryz.prog 103 #[.string ⟨#[77, 97, 120, 80, 111, 111, 108]⟩] w fun e w' => Ruled (some (1, 1, [⟨⟨#[107, 101, 114, 110, 101, 108, 95, 115, 104, 97, 112, 101]⟩, 7, true⟩, ⟨⟨#[115, 116, 114, 105, 100, 101, 115]⟩, 7, false⟩, ⟨⟨#[112, 97, 100, 115]⟩, 7, false⟩, thenRa])) w' e ∧ w.grownBy w' none := by
  have e1 : isOne ⟨#[77, 97, 120, 80, 111, 111, 108]⟩ = false := by simp only [isOne, bytes_toList]; rfl
  obtain ⟨w0, hw0⟩ : ∃ w0, w0 = w.alloc (.cells #[.int .i64 0, .int .i64 0, .slice none 0 0] 146) := ⟨_, rfl⟩
  have g0 : w.grownBy w0 none := by rw [hw0]; exact grown_new _ _
  have b0 := heap_alloc_new w (.cells #[.int .i64 0, .int .i64 0, .slice none 0 0] 146)
  rw [← hw0] at b0
  have B0 := hide b0
  have OO := hide (ofone_any ⟨#[77, 97, 120, 80, 111, 111, 108]⟩ w0 (hl.more g0))
  rw [e1] at OO
  clear hl b0 e1
  go_enter Tryz.func103, Tryz.ntmps103
  go_wp2_with fail
  rw [← hw0]
  clear hw0
  refine OO.out.mono ?_
  rintro e v0 ⟨rfl, h0⟩
  go_wp2_with fail
  refine (must_any _ _ _).mono ?_
  rintro e v1 ⟨rfl, h1'⟩
  have h1 := grown_trans h0 h1'
  go_wp2_with fail
  refine (may_any _ _ _).mono ?_
  rintro e v2 ⟨rfl, h2'⟩
  have h2 := grown_trans h1 h2'
  go_wp2_with fail
  refine (may_any _ _ _).mono ?_
  rintro e v3 ⟨rfl, h3'⟩
  have h3 := grown_trans h2 h3'
  go_wp2_with fail
  refine (takes_any _ _ _ [⟨⟨#[107, 101, 114, 110, 101, 108, 95, 115, 104, 97, 112, 101]⟩, 7, true⟩, ⟨⟨#[115, 116, 114, 105, 100, 101, 115]⟩, 7, false⟩, ⟨⟨#[112, 97, 100, 115]⟩, 7, false⟩] _ (Or.inr ⟨_, _, rfl, heap_alloc_new _ _, rfl, rfl⟩) (by decide)).mono ?_
  rintro e w6 ⟨⟨a, n, c, rfl, ho, hat⟩, hg6⟩
  have hlt := (Array.getElem?_eq_some_iff.1 B0.out).1
  have hsk := h3.size
  have hne : (Value.slice a n c).ownBlock ≠ some w.heap.size := fun hh => by
    rcases hat _ hh with h | h
    · have : v3.heap.size = w.heap.size := by simpa [Value.ownBlock] using h
      omega
    · have : v3.heap.size + 1 ≤ w.heap.size := by simpa using h
      omega
  obtain ⟨b6, hX, hO, gX⟩ := rule_put (lo := 1) (hi := 1) g0 B0.out h3 (grown_new v3 (.cells #[.string ⟨#[107, 101, 114, 110, 101, 108, 95, 115, 104, 97, 112, 101]⟩, .int .i64 7, .bool true, .string ⟨#[115, 116, 114, 105, 100, 101, 115]⟩, .int .i64 7, .bool false, .string ⟨#[112, 97, 100, 115]⟩, .int .i64 7, .bool false] 174)) hg6 (fun g e => by cases e; exact Nat.le_refl _) ho hne
  obtain ⟨r0, r1, r2, f0, f1, f2⟩ := rule_cells b6
  have HX := hide hX
  have HO := hide hO
  have GX := hide gX
  clear hX hO gX b6 ho hg6 hne hat hlt hsk
  go_wp2
  refine bodyPost_ret (ret_rule2 rfl _ _ w.heap.size rfl HX.out) rfl ?_
  exact ⟨⟨_, _, _, rfl, HO.out⟩, GX.out⟩

set_option maxRecDepth 100000 in
set_option maxHeartbeats 1600000 in
theorem rule_AveragePool (w : World) (hl : Laid w) :
    Calls Tryz.prog 103 #[.string ⟨#[65, 118, 101, 114, 97, 103, 101, 80, 111, 111, 108]⟩] w fun e w' => Ruled (some (1, 1, [⟨⟨#[107, 101, 114, 110, 101, 108, 95, 115, 104, 97, 112, 101]⟩, 7, true⟩, ⟨⟨#[115, 116, 114, 105, 100, 101, 115]⟩, 7, false⟩, ⟨⟨#[112, 97, 100, 115]⟩, 7, false⟩, thenRa])) w' e ∧ w.grownBy w' none := by
  have e1 : isOne ⟨#[65, 118, 101, 114, 97, 103, 101, 80, 111, 111, 108]⟩ = false := by simp only [isOne, bytes_toList]; rfl
  obtain ⟨w0, hw0⟩ : ∃ w0, w0 = w.alloc (.cells #[.int .i64 0, .int .i64 0, .slice none 0 0] 146) := ⟨_, rfl⟩
  have g0 : w.grownBy w0 none := by rw [hw0]; exact grown_new _ _
  have b0 := heap_alloc_new w (.cells #[.int .i64 0, .int .i64 0, .slice none 0 0] 146)
  rw [← hw0] at b0
  have B0 := hide b0
  have OO := hide (ofone_any ⟨#[65, 118, 101, 114, 97, 103, 101, 80, 111, 111, 108]⟩ w0 (hl.more g0))
  rw [e1] at OO
  clear hl b0 e1
  go_enter Tryz.func103, Tryz.ntmps103
  go_wp2_with fail
  rw [← hw0]
  clear hw0
  refine OO.out.mono ?_
  rintro e v0 ⟨rfl, h0⟩
  go_wp2_with fail
  refine (must_any _ _ _).mono ?_
  rintro e v1 ⟨rfl, h1'⟩
  have h1 := grown_trans h0 h1'
  go_wp2_with fail
  refine (may_any _ _ _).mono ?_
  rintro e v2 ⟨rfl, h2'⟩
  have h2 := grown_trans h1 h2'
  go_wp2_with fail
  refine (may_any _ _ _).mono ?_
  rintro e v3 ⟨rfl, h3'⟩
  have h3 := grown_trans h2 h3'
  go_wp2_with fail
  refine (takes_any _ _ _ [⟨⟨#[107, 101, 114, 110, 101, 108, 95, 115, 104, 97, 112, 101]⟩, 7, true⟩, ⟨⟨#[115, 116, 114, 105, 100, 101, 115]⟩, 7, false⟩, ⟨⟨#[112, 97, 100, 115]⟩, 7, false⟩] _ (Or.inr ⟨_, _, rfl, heap_alloc_new _ _, rfl, rfl⟩) (by decide)).mono ?_
  rintro e w6 ⟨⟨a, n, c, rfl, ho, hat⟩, hg6⟩
  have hlt := (Array.getElem?_eq_some_iff.1 B0.out).1
  have hsk := h3.size
  have hne : (Value.slice a n c).ownBlock ≠ some w.heap.size := fun hh => by
    rcases hat _ hh with h | h
    · have : v3.heap.size = w.heap.size := by simpa [Value.ownBlock] using h
      omega
    · have : v3.heap.size + 1 ≤ w.heap.size := by simpa using h
      omega
  obtain ⟨b6, hX, hO, gX⟩ := rule_put (lo := 1) (hi := 1) g0 B0.out h3 (grown_new v3 (.cells #[.string ⟨#[107, 101, 114, 110, 101, 108, 95, 115, 104, 97, 112, 101]⟩, .int .i64 7, .bool true, .string ⟨#[115, 116, 114, 105, 100, 101, 115]⟩, .int .i64 7, .bool false, .string ⟨#[112, 97, 100, 115]⟩, .int .i64 7, .bool false] 174)) hg6 (fun g e => by cases e; exact Nat.le_refl _) ho hne
  obtain ⟨r0, r1, r2, f0, f1, f2⟩ := rule_cells b6
  have HX := hide hX
  have HO := hide hO
  have GX := hide gX
  clear hX hO gX b6 ho hg6 hne hat hlt hsk
  go_wp2
  refine bodyPost_ret (ret_rule2 rfl _ _ w.heap.size rfl HX.out) rfl ?_
  exact ⟨⟨_, _, _, rfl, HO.out⟩, GX.out⟩

set_option maxRecDepth 100000 in
set_option maxHeartbeats 1600000 in
theorem rule_GlobalAveragePool (w : World) (hl : Laid w) :
    Calls Tryz.prog 103 #[.string ⟨#[71, 108, 111, 98, 97, 108, 65, 118, 101, 114, 97, 103, 101, 80, 111, 111, 108]⟩] w fun e w' => Ruled (some (1, 1, [thenRa])) w' e ∧ w.grownBy w' none := by
  have e1 : isOne ⟨#[71, 108, 111, 98, 97, 108, 65, 118, 101, 114, 97, 103, 101, 80, 111, 111, 108]⟩ = false := by simp only [isOne, bytes_toList]; rfl
  obtain ⟨w0, hw0⟩ : ∃ w0, w0 = w.alloc (.cells #[.int .i64 0, .int .i64 0, .slice none 0 0] 146) := ⟨_, rfl⟩
  have g0 : w.grownBy w0 none := by rw [hw0]; exact grown_new _ _
  have b0 := heap_alloc_new w (.cells #[.int .i64 0, .int .i64 0, .slice none 0 0] 146)
  rw [← hw0] at b0
  have B0 := hide b0
  have OO := hide (ofone_any ⟨#[71, 108, 111, 98, 97, 108, 65, 118, 101, 114, 97, 103, 101, 80, 111, 111, 108]⟩ w0 (hl.more g0))
  rw [e1] at OO
  clear hl b0 e1
  go_enter Tryz.func103, Tryz.ntmps103
  go_wp2_with fail
  rw [← hw0]
  clear hw0
  refine OO.out.mono ?_
  rintro e v0 ⟨rfl, h0⟩
  go_wp2_with fail
  refine (takes_any _ _ _ [] _ (Or.inl ⟨rfl, rfl⟩) (by decide)).mono ?_
  rintro e w6 ⟨⟨a, n, c, rfl, ho, hat⟩, hg6⟩
  have hlt := (Array.getElem?_eq_some_iff.1 B0.out).1
  have hsk := h0.size
  have hne : (Value.slice a n c).ownBlock ≠ some w.heap.size := fun hh => by
    rcases hat _ hh with h | h
    · cases h
    · omega
  obtain ⟨b6, hX, hO, gX⟩ := rule_put (lo := 1) (hi := 1) g0 B0.out h0 (grown_refl _) hg6 (fun g e => by cases e) ho hne
  obtain ⟨r0, r1, r2, f0, f1, f2⟩ := rule_cells b6
  have HX := hide hX
  have HO := hide hO
  have GX := hide gX
  clear hX hO gX b6 ho hg6 hne hat hlt hsk
  go_wp2
  refine bodyPost_ret (ret_rule2 rfl _ _ w.heap.size rfl HX.out) rfl ?_
  exact ⟨⟨_, _, _, rfl, HO.out⟩, GX.out⟩

set_option maxRecDepth 100000 in
set_option maxHeartbeats 1600000 in
theorem rule_BatchNormalization (w : World) (hl : Laid w) :
    Calls Tryz.prog 103 #[.string ⟨#[66, 97, 116, 99, 104, 78, 111, 114, 109, 97, 108, 105, 122, 97, 116, 105, 111, 110]⟩] w fun e w' => Ruled (some (5, 5, [⟨⟨#[101, 112, 115, 105, 108, 111, 110]⟩, 1, false⟩, thenRa])) w' e ∧ w.grownBy w' none := by
  have e1 : isOne ⟨#[66, 97, 116, 99, 104, 78, 111, 114, 109, 97, 108, 105, 122, 97, 116, 105, 111, 110]⟩ = false := by simp only [isOne, bytes_toList]; rfl
  obtain ⟨w0, hw0⟩ : ∃ w0, w0 = w.alloc (.cells #[.int .i64 0, .int .i64 0, .slice none 0 0] 146) := ⟨_, rfl⟩
  have g0 : w.grownBy w0 none := by rw [hw0]; exact grown_new _ _
  have b0 := heap_alloc_new w (.cells #[.int .i64 0, .int .i64 0, .slice none 0 0] 146)
  rw [← hw0] at b0
  have B0 := hide b0
  have OO := hide (ofone_any ⟨#[66, 97, 116, 99, 104, 78, 111, 114, 109, 97, 108, 105, 122, 97, 116, 105, 111, 110]⟩ w0 (hl.more g0))
  rw [e1] at OO
  clear hl b0 e1
  go_enter Tryz.func103, Tryz.ntmps103
  go_wp2_with fail
  rw [← hw0]
  clear hw0
  refine OO.out.mono ?_
  rintro e v0 ⟨rfl, h0⟩
  go_wp2_with fail
  refine (may_any _ _ _).mono ?_
  rintro e v1 ⟨rfl, h1'⟩
  have h1 := grown_trans h0 h1'
  go_wp2_with fail
  refine (takes_any _ _ _ [⟨⟨#[101, 112, 115, 105, 108, 111, 110]⟩, 1, false⟩] _ (Or.inr ⟨_, _, rfl, heap_alloc_new _ _, rfl, rfl⟩) (by decide)).mono ?_
  rintro e w6 ⟨⟨a, n, c, rfl, ho, hat⟩, hg6⟩
  have hlt := (Array.getElem?_eq_some_iff.1 B0.out).1
  have hsk := h1.size
  have hne : (Value.slice a n c).ownBlock ≠ some w.heap.size := fun hh => by
    rcases hat _ hh with h | h
    · have : v1.heap.size = w.heap.size := by simpa [Value.ownBlock] using h
      omega
    · have : v1.heap.size + 1 ≤ w.heap.size := by simpa using h
      omega
  obtain ⟨b6, hX, hO, gX⟩ := rule_put (lo := 5) (hi := 5) g0 B0.out h1 (grown_new v1 (.cells #[.string ⟨#[101, 112, 115, 105, 108, 111, 110]⟩, .int .i64 1, .bool false] 174)) hg6 (fun g e => by cases e; exact Nat.le_refl _) ho hne
  obtain ⟨r0, r1, r2, f0, f1, f2⟩ := rule_cells b6
  have HX := hide hX
  have HO := hide hO
  have GX := hide gX
  clear hX hO gX b6 ho hg6 hne hat hlt hsk
  go_wp2
  refine bodyPost_ret (ret_rule2 rfl _ _ w.heap.size rfl HX.out) rfl ?_
  exact ⟨⟨_, _, _, rfl, HO.out⟩, GX.out⟩

set_option maxRecDepth 100000 in
set_option maxHeartbeats 1600000 in
theorem rule_Constant (w : World) (hl : Laid w) :
    Calls Tryz.prog 103 #[.string ⟨#[67, 111, 110, 115, 116, 97, 110, 116]⟩] w fun e w' => Ruled (some (0, 0, [⟨⟨#[118, 97, 108, 117, 101]⟩, 4, true⟩, thenRa])) w' e ∧ w.grownBy w' none := by
  have e1 : isOne ⟨#[67, 111, 110, 115, 116, 97, 110, 116]⟩ = false := by simp only [isOne, bytes_toList]; rfl
  obtain ⟨w0, hw0⟩ : ∃ w0, w0 = w.alloc (.cells #[.int .i64 0, .int .i64 0, .slice none 0 0] 146) := ⟨_, rfl⟩
  have g0 : w.grownBy w0 none := by rw [hw0]; exact grown_new _ _
  have b0 := heap_alloc_new w (.cells #[.int .i64 0, .int .i64 0, .slice none 0 0] 146)
  rw [← hw0] at b0
  have B0 := hide b0
  have OO := hide (ofone_any ⟨#[67, 111, 110, 115, 116, 97, 110, 116]⟩ w0 (hl.more g0))
  rw [e1] at OO
  clear hl b0 e1
  go_enter Tryz.func103, Tryz.ntmps103
  go_wp2_with fail
  rw [← hw0]
  clear hw0
  refine OO.out.mono ?_
  rintro e v0 ⟨rfl, h0⟩
  go_wp2_with fail
  refine (must_any _ _ _).mono ?_
  rintro e v1 ⟨rfl, h1'⟩
  have h1 := grown_trans h0 h1'
  go_wp2_with fail
  refine (takes_any _ _ _ [⟨⟨#[118, 97, 108, 117, 101]⟩, 4, true⟩] _ (Or.inr ⟨_, _, rfl, heap_alloc_new _ _, rfl, rfl⟩) (by decide)).mono ?_
  rintro e w6 ⟨⟨a, n, c, rfl, ho, hat⟩, hg6⟩
  have hlt := (Array.getElem?_eq_some_iff.1 B0.out).1
  have hsk := h1.size
  have hne : (Value.slice a n c).ownBlock ≠ some w.heap.size := fun hh => by
    rcases hat _ hh with h | h
    · have : v1.heap.size = w.heap.size := by simpa [Value.ownBlock] using h
      omega
    · have : v1.heap.size + 1 ≤ w.heap.size := by simpa using h
      omega
  obtain ⟨b6, hX, hO, gX⟩ := rule_put (lo := 0) (hi := 0) g0 B0.out h1 (grown_new v1 (.cells #[.string ⟨#[118, 97, 108, 117, 101]⟩, .int .i64 4, .bool true] 174)) hg6 (fun g e => by cases e; exact Nat.le_refl _) ho hne
  obtain ⟨r0, r1, r2, f0, f1, f2⟩ := rule_cells b6
  have HX := hide hX
  have HO := hide hO
  have GX := hide gX
  clear hX hO gX b6 ho hg6 hne hat hlt hsk
  go_wp2
  refine bodyPost_ret (ret_rule2 rfl _ _ w.heap.size rfl HX.out) rfl ?_
  exact ⟨⟨_, _, _, rfl, HO.out⟩, GX.out⟩

end Go.Proofs.YtfladhogkhhlcaaGreatDoor

/- What any operator takes, by the walk (mkRuleAll.py). -/
namespace Go.Proofs.YtfladhogkhhlcaaGreatDoor
open Go.RowKit

/-- All operators: how many inputs at least and at most, and the attributes. -/
def rules : List (List UInt8 × Int × Int × List Ra) := [
  ([73, 100, 101, 110, 116, 105, 116, 121], 1, 1, [thenRa]),
  ([78, 101, 103], 1, 1, [thenRa]),
  ([65, 98, 115], 1, 1, [thenRa]),
  ([78, 111, 116], 1, 1, [thenRa]),
  ([82, 101, 108, 117], 1, 1, [thenRa]),
  ([83, 113, 114, 116], 1, 1, [thenRa]),
  ([70, 108, 111, 111, 114], 1, 1, [thenRa]),
  ([69, 120, 112], 1, 1, [thenRa]),
  ([83, 105, 103, 109, 111, 105, 100], 1, 1, [thenRa]),
  ([84, 97, 110, 104], 1, 1, [thenRa]),
  ([65, 100, 100], 2, 2, [thenRa]),
  ([83, 117, 98], 2, 2, [thenRa]),
  ([77, 117, 108], 2, 2, [thenRa]),
  ([68, 105, 118], 2, 2, [thenRa]),
  ([77, 97, 120], 2, 2, [thenRa]),
  ([77, 105, 110], 2, 2, [thenRa]),
  ([65, 110, 100], 2, 2, [thenRa]),
  ([79, 114], 2, 2, [thenRa]),
  ([88, 111, 114], 2, 2, [thenRa]),
  ([69, 113, 117, 97, 108], 2, 2, [thenRa]),
  ([76, 101, 115, 115], 2, 2, [thenRa]),
  ([71, 114, 101, 97, 116, 101, 114], 2, 2, [thenRa]),
  ([77, 97, 116, 77, 117, 108], 2, 2, [thenRa]),
  ([87, 104, 101, 114, 101], 3, 3, [thenRa]),
  ([67, 108, 105, 112], 1, 1, [⟨⟨#[109, 105, 110]⟩, 1, false⟩, ⟨⟨#[109, 97, 120]⟩, 1, false⟩, thenRa]),
  ([67, 97, 115, 116], 1, 1, [⟨⟨#[116, 111]⟩, 2, true⟩, thenRa]),
  ([82, 101, 100, 117, 99, 101, 83, 117, 109], 1, 1, [⟨⟨#[97, 120, 101, 115]⟩, 7, false⟩, ⟨⟨#[107, 101, 101, 112, 100, 105, 109, 115]⟩, 2, false⟩, thenRa]),
  ([82, 101, 100, 117, 99, 101, 77, 97, 120], 1, 1, [⟨⟨#[97, 120, 101, 115]⟩, 7, false⟩, ⟨⟨#[107, 101, 101, 112, 100, 105, 109, 115]⟩, 2, false⟩, thenRa]),
  ([82, 101, 100, 117, 99, 101, 77, 101, 97, 110], 1, 1, [⟨⟨#[97, 120, 101, 115]⟩, 7, false⟩, ⟨⟨#[107, 101, 101, 112, 100, 105, 109, 115]⟩, 2, false⟩, thenRa]),
  ([65, 114, 103, 77, 97, 120], 1, 1, [⟨⟨#[97, 120, 105, 115]⟩, 2, false⟩, ⟨⟨#[107, 101, 101, 112, 100, 105, 109, 115]⟩, 2, false⟩, thenRa]),
  ([82, 101, 115, 104, 97, 112, 101], 1, 1, [⟨⟨#[115, 104, 97, 112, 101]⟩, 7, true⟩, thenRa]),
  ([69, 120, 112, 97, 110, 100], 1, 1, [⟨⟨#[115, 104, 97, 112, 101]⟩, 7, true⟩, thenRa]),
  ([84, 114, 97, 110, 115, 112, 111, 115, 101], 1, 1, [⟨⟨#[112, 101, 114, 109]⟩, 7, false⟩, thenRa]),
  ([67, 111, 110, 99, 97, 116], 1, 20, [⟨⟨#[97, 120, 105, 115]⟩, 2, true⟩, thenRa]),
  ([83, 108, 105, 99, 101], 1, 1, [⟨⟨#[115, 116, 97, 114, 116, 115]⟩, 7, true⟩, ⟨⟨#[101, 110, 100, 115]⟩, 7, true⟩, ⟨⟨#[97, 120, 101, 115]⟩, 7, false⟩, thenRa]),
  ([71, 97, 116, 104, 101, 114], 2, 2, [⟨⟨#[97, 120, 105, 115]⟩, 2, false⟩, thenRa]),
  ([80, 97, 100], 1, 1, [⟨⟨#[112, 97, 100, 115]⟩, 7, true⟩, ⟨⟨#[118, 97, 108, 117, 101]⟩, 1, false⟩, thenRa]),
  ([83, 113, 117, 101, 101, 122, 101], 1, 1, [⟨⟨#[97, 120, 101, 115]⟩, 7, true⟩, thenRa]),
  ([85, 110, 115, 113, 117, 101, 101, 122, 101], 1, 1, [⟨⟨#[97, 120, 101, 115]⟩, 7, true⟩, thenRa]),
  ([70, 108, 97, 116, 116, 101, 110], 1, 1, [⟨⟨#[97, 120, 105, 115]⟩, 2, false⟩, thenRa]),
  ([83, 111, 102, 116, 109, 97, 120], 1, 1, [⟨⟨#[97, 120, 105, 115]⟩, 2, false⟩, thenRa]),
  ([71, 101, 109, 109], 2, 3, [⟨⟨#[116, 114, 97, 110, 115, 65]⟩, 2, false⟩, ⟨⟨#[116, 114, 97, 110, 115, 66]⟩, 2, false⟩, ⟨⟨#[97, 108, 112, 104, 97]⟩, 1, false⟩, ⟨⟨#[98, 101, 116, 97]⟩, 1, false⟩, thenRa]),
  ([67, 111, 110, 118], 2, 3, [⟨⟨#[115, 116, 114, 105, 100, 101, 115]⟩, 7, false⟩, ⟨⟨#[112, 97, 100, 115]⟩, 7, false⟩, ⟨⟨#[100, 105, 108, 97, 116, 105, 111, 110, 115]⟩, 7, false⟩, ⟨⟨#[103, 114, 111, 117, 112]⟩, 2, false⟩, thenRa]),
  ([77, 97, 120, 80, 111, 111, 108], 1, 1, [⟨⟨#[107, 101, 114, 110, 101, 108, 95, 115, 104, 97, 112, 101]⟩, 7, true⟩, ⟨⟨#[115, 116, 114, 105, 100, 101, 115]⟩, 7, false⟩, ⟨⟨#[112, 97, 100, 115]⟩, 7, false⟩, thenRa]),
  ([65, 118, 101, 114, 97, 103, 101, 80, 111, 111, 108], 1, 1, [⟨⟨#[107, 101, 114, 110, 101, 108, 95, 115, 104, 97, 112, 101]⟩, 7, true⟩, ⟨⟨#[115, 116, 114, 105, 100, 101, 115]⟩, 7, false⟩, ⟨⟨#[112, 97, 100, 115]⟩, 7, false⟩, thenRa]),
  ([71, 108, 111, 98, 97, 108, 65, 118, 101, 114, 97, 103, 101, 80, 111, 111, 108], 1, 1, [thenRa]),
  ([66, 97, 116, 99, 104, 78, 111, 114, 109, 97, 108, 105, 122, 97, 116, 105, 111, 110], 5, 5, [⟨⟨#[101, 112, 115, 105, 108, 111, 110]⟩, 1, false⟩, thenRa]),
  ([67, 111, 110, 115, 116, 97, 110, 116], 0, 0, [⟨⟨#[118, 97, 108, 117, 101]⟩, 4, true⟩, thenRa])]

def ruleF (op : ByteArray) : Option (Int × Int × List Ra) := (rules.find? (fun r => r.1 == op.toList)).map (·.2)

set_option maxRecDepth 100000 in
theorem rule_each (w : World) (hl : Laid w) : ∀ r ∈ rules, Calls Tryz.prog 103 #[.string (B r.1)] w fun e w' => Ruled (some r.2) w' e ∧ w.grownBy w' none := by
  unfold rules
  simp only [List.forall_mem_cons]
  exact ⟨rule_Identity w hl, rule_Neg w hl, rule_Abs w hl, rule_Not w hl, rule_Relu w hl, rule_Sqrt w hl, rule_Floor w hl, rule_Exp w hl, rule_Sigmoid w hl, rule_Tanh w hl, rule_Add w hl, rule_Sub w hl, rule_Mul w hl, rule_Div w hl, rule_Max w hl, rule_Min w hl, rule_And w hl, rule_Or w hl, rule_Xor w hl, rule_Equal w hl, rule_Less w hl, rule_Greater w hl, rule_MatMul w hl, rule_Where w hl, rule_Clip w hl, rule_Cast w hl, rule_ReduceSum w hl, rule_ReduceMax w hl, rule_ReduceMean w hl, rule_ArgMax w hl, rule_Reshape w hl, rule_Expand w hl, rule_Transpose w hl, rule_Concat w hl, rule_Slice w hl, rule_Gather w hl, rule_Pad w hl, rule_Squeeze w hl, rule_Unsqueeze w hl, rule_Flatten w hl, rule_Softmax w hl, rule_Gemm w hl, rule_Conv w hl, rule_MaxPool w hl, rule_AveragePool w hl, rule_GlobalAveragePool w hl, rule_BatchNormalization w hl, rule_Constant w hl, fun r hr => absurd hr (List.not_mem_nil)⟩

theorem rules_no {s : ByteArray} (h : rules.find? (fun r => r.1 == s.toList) = none) (n : List UInt8) (hn : n ∈ rules.map (·.1)) : (s.toList == n) = false := by
  obtain ⟨r, hr, rfl⟩ := List.mem_map.1 hn
  have := List.find?_eq_none.1 h r hr
  rw [beq_eq_false_iff_ne]
  intro e
  exact this (by simp [e])

set_option maxRecDepth 100000 in
set_option maxHeartbeats 6400000 in
theorem rule_none (s : ByteArray) (h : rules.find? (fun r => r.1 == s.toList) = none) (w : World) (hl : Laid w) :
    Calls Tryz.prog 103 #[.string s] w fun e w' => Ruled none w' e ∧ w.grownBy w' none := by
  have e1 : isOne s = false := by
    unfold isOne
    rw [List.any_eq_false]
    intro n hn
    have h2 := rules_no h n (by revert n; decide)
    rw [beq_eq_false_iff_ne] at h2
    simpa using fun e => h2 e.symm
  obtain ⟨w0, hw0⟩ : ∃ w0, w0 = w.alloc (.cells #[.int .i64 0, .int .i64 0, .slice none 0 0] 146) := ⟨_, rfl⟩
  have g0 : w.grownBy w0 none := by rw [hw0]; exact grown_new _ _
  have b0 := heap_alloc_new w (.cells #[.int .i64 0, .int .i64 0, .slice none 0 0] 146)
  rw [← hw0] at b0
  have B0 := hide b0
  have OO := hide (ofone_any s w0 (hl.more g0))
  rw [e1] at OO
  have q0 : (s.toList == [65, 100, 100]) = false := rules_no h _ (by decide)
  have q1 : (s.toList == [83, 117, 98]) = false := rules_no h _ (by decide)
  have q2 : (s.toList == [77, 117, 108]) = false := rules_no h _ (by decide)
  have q3 : (s.toList == [68, 105, 118]) = false := rules_no h _ (by decide)
  have q4 : (s.toList == [77, 97, 120]) = false := rules_no h _ (by decide)
  have q5 : (s.toList == [77, 105, 110]) = false := rules_no h _ (by decide)
  have q6 : (s.toList == [65, 110, 100]) = false := rules_no h _ (by decide)
  have q7 : (s.toList == [79, 114]) = false := rules_no h _ (by decide)
  have q8 : (s.toList == [88, 111, 114]) = false := rules_no h _ (by decide)
  have q9 : (s.toList == [69, 113, 117, 97, 108]) = false := rules_no h _ (by decide)
  have q10 : (s.toList == [76, 101, 115, 115]) = false := rules_no h _ (by decide)
  have q11 : (s.toList == [71, 114, 101, 97, 116, 101, 114]) = false := rules_no h _ (by decide)
  have q12 : (s.toList == [77, 97, 116, 77, 117, 108]) = false := rules_no h _ (by decide)
  have q13 : (s.toList == [87, 104, 101, 114, 101]) = false := rules_no h _ (by decide)
  have q14 : (s.toList == [67, 108, 105, 112]) = false := rules_no h _ (by decide)
  have q15 : (s.toList == [67, 97, 115, 116]) = false := rules_no h _ (by decide)
  have q16 : (s.toList == [82, 101, 100, 117, 99, 101, 83, 117, 109]) = false := rules_no h _ (by decide)
  have q17 : (s.toList == [82, 101, 100, 117, 99, 101, 77, 97, 120]) = false := rules_no h _ (by decide)
  have q18 : (s.toList == [82, 101, 100, 117, 99, 101, 77, 101, 97, 110]) = false := rules_no h _ (by decide)
  have q19 : (s.toList == [65, 114, 103, 77, 97, 120]) = false := rules_no h _ (by decide)
  have q20 : (s.toList == [82, 101, 115, 104, 97, 112, 101]) = false := rules_no h _ (by decide)
  have q21 : (s.toList == [69, 120, 112, 97, 110, 100]) = false := rules_no h _ (by decide)
  have q22 : (s.toList == [84, 114, 97, 110, 115, 112, 111, 115, 101]) = false := rules_no h _ (by decide)
  have q23 : (s.toList == [67, 111, 110, 99, 97, 116]) = false := rules_no h _ (by decide)
  have q24 : (s.toList == [83, 108, 105, 99, 101]) = false := rules_no h _ (by decide)
  have q25 : (s.toList == [71, 97, 116, 104, 101, 114]) = false := rules_no h _ (by decide)
  have q26 : (s.toList == [80, 97, 100]) = false := rules_no h _ (by decide)
  have q27 : (s.toList == [83, 113, 117, 101, 101, 122, 101]) = false := rules_no h _ (by decide)
  have q28 : (s.toList == [85, 110, 115, 113, 117, 101, 101, 122, 101]) = false := rules_no h _ (by decide)
  have q29 : (s.toList == [70, 108, 97, 116, 116, 101, 110]) = false := rules_no h _ (by decide)
  have q30 : (s.toList == [83, 111, 102, 116, 109, 97, 120]) = false := rules_no h _ (by decide)
  have q31 : (s.toList == [71, 101, 109, 109]) = false := rules_no h _ (by decide)
  have q32 : (s.toList == [67, 111, 110, 118]) = false := rules_no h _ (by decide)
  have q33 : (s.toList == [77, 97, 120, 80, 111, 111, 108]) = false := rules_no h _ (by decide)
  have q34 : (s.toList == [65, 118, 101, 114, 97, 103, 101, 80, 111, 111, 108]) = false := rules_no h _ (by decide)
  have q35 : (s.toList == [71, 108, 111, 98, 97, 108, 65, 118, 101, 114, 97, 103, 101, 80, 111, 111, 108]) = false := rules_no h _ (by decide)
  have q36 : (s.toList == [66, 97, 116, 99, 104, 78, 111, 114, 109, 97, 108, 105, 122, 97, 116, 105, 111, 110]) = false := rules_no h _ (by decide)
  have q37 : (s.toList == [67, 111, 110, 115, 116, 97, 110, 116]) = false := rules_no h _ (by decide)
  clear hl b0 e1 h
  go_enter Tryz.func103, Tryz.ntmps103
  go_wp2_with fail
  rw [← hw0]
  clear hw0
  refine OO.out.mono ?_
  rintro e v0 ⟨rfl, h0⟩
  have b1 := box_kept B0.out h0
  obtain ⟨r0, r1, r2, f0, f1, f2⟩ := rule_cells b1
  obtain ⟨hX, gX⟩ := store3r (.int .i64 0) (.int .i64 0) (.slice none 0 0) b1
  have HX := hide hX
  have GX := hide (grown_row_box (grown_trans g0 h0) gX (Nat.le_refl _))
  clear hX gX b1
  go_wp2
  refine bodyPost_ret (ret_rule2 rfl _ _ w.heap.size rfl HX.out) rfl ?_
  exact ⟨rfl, GX.out⟩

theorem ruleof_any (s : ByteArray) (w : World) (hl : Laid w) :
    Calls Tryz.prog 103 #[.string s] w fun e w' => Ruled (ruleF s) w' e ∧ w.grownBy w' none := by
  unfold ruleF
  cases h : rules.find? (fun r => r.1 == s.toList) with
  | none => exact rule_none s h w hl
  | some r =>
    have h1 := List.find?_some h
    have h2 : r.1 = s.data.toList := by rw [← bytes_toList]; simpa using h1
    have h3 := rule_each w hl r (List.mem_of_find?_eq_some h)
    rw [h2, B_self] at h3
    exact h3
end Go.Proofs.YtfladhogkhhlcaaGreatDoor

/- Two lists of texts that are the same; what must be there, by the walk. -/
namespace Go.Proofs.YtfladhogkhhlcaaGreatDoor
open Go.RowKit

theorem lit_isL {α : Type} {te : TypeId} {bytes size : Nat} {f : α → List Value} (hf : ∀ a, (f a).length = size) {w : World} {g : Nat} {cs : Array Value} {xs : List α} (hb : w.heap[g]? = some (.cells cs te (0, 0))) (hc : cs.toList = xs.flatMap f) (hl : xs.length * bytes ≤ 140737488351232) (hm : xs.length ≤ 1000) :
    IsL bytes size f w (.slice (some ⟨g, 0, none⟩) xs.length xs.length) xs := by
  have hcs : cs.size = xs.length * size := by rw [← Array.length_toList, hc, flat_len hf]
  have ho : OwnsL te size f w 0 (.slice (some ⟨g, 0, none⟩) xs.length xs.length) xs := by
    refine ⟨flat_len hf xs, Or.inr ⟨g, xs.length, cs, rfl, Nat.zero_le _, hb, Nat.le_refl _, by simp only [maxLen]; omega, hcs, ?_⟩⟩
    rw [hc]
    exact List.take_of_length_le (by rw [flat_len hf]; exact Nat.le_refl _)
  exact ho.isL hf hl

theorem scell_len (s : ByteArray) : (scell s).length = 1 := rfl

theorem acells_len (a : Atr) : (acells a).length = 9 := rfl

def thenA (s : ByteArray) : Atr := ⟨⟨#[116, 104, 101, 110]⟩, 3, 0, 0, s, 0, ⟨none, 0, 0⟩, ⟨none, 0, 0⟩, ⟨none, 0, 0⟩⟩

theorem find_then (s : ByteArray) : [thenA s].find? (isA ⟨#[116, 104, 101, 110]⟩ 3) = some (thenA s) := by
  simp [thenA, isA, bytes_toList]

theorem attrs_then (s : ByteArray) : attrsE [thenRa] [thenA s] = 0 := by
  simp [attrsE, chk1, lacks, thenRa, thenA, sameR, bytes_toList]

theorem e_relu : checkE (some (1, 1, [thenRa])) [⟨#[120]⟩] ⟨#[121]⟩ [] = 0 := by
  simp [checkE, isS, bytes_toList, attrsE, chk1, lacks, thenRa, thenE]

theorem e_cast : checkE (some (1, 1, [⟨⟨#[116, 111]⟩, 2, true⟩, thenRa])) [⟨#[120]⟩] ⟨#[121]⟩ [] = 4 := by
  simp [checkE, isS, bytes_toList, attrsE, chk1, lacks, thenRa]

theorem e_add (s : ByteArray) : checkE (some (2, 2, [thenRa])) [⟨#[120]⟩, ⟨#[121]⟩] ⟨#[122]⟩ [thenA s] = thenE (some (thenA s)) := by
  simp only [checkE, attrs_then, find_then]
  simp [isS, bytes_toList]

theorem e_one (s : ByteArray) : checkE (some (1, 1, [thenRa])) [⟨#[120]⟩] ⟨#[121]⟩ [thenA s] = thenE (some (thenA s)) := by
  simp only [checkE, attrs_then, find_then]
  simp [isS, bytes_toList]

def reluNeg : ByteArray := ⟨#[82, 101, 108, 117, 44, 78, 101, 103]⟩

theorem then_live : thenE (some (thenA reluNeg)) = 0 ∧ thenL (some (thenA reluNeg)) = [⟨#[82, 101, 108, 117]⟩, ⟨#[78, 101, 103]⟩] := by
  have hp : pcs (thenA reluNeg).s.data.toList = [[82, 101, 108, 117], [78, 101, 103]] := by rfl
  have h := then_all hp (by simp [isOne, ones, bytes_toList, B])
  exact h

theorem lit_one (w : World) (x : ByteArray) : IsStrs (w.alloc (.cells #[.string x] 9)) (.slice (some ⟨w.heap.size, 0, none⟩) 1 1) [x] :=
  lit_isL (xs := [x]) scell_len (heap_alloc_new w _) rfl (by simp) (by simp)

theorem lit_two (w : World) (x y : ByteArray) : IsStrs (w.alloc (.cells #[.string x, .string y] 9)) (.slice (some ⟨w.heap.size, 0, none⟩) 2 2) [x, y] :=
  lit_isL (xs := [x, y]) scell_len (heap_alloc_new w _) rfl (by simp) (by simp)

theorem lit_then (w : World) (s : ByteArray) : IsAttrs (w.alloc (.cells #[.string ⟨#[116, 104, 101, 110]⟩, .int .i64 3, .int .i64 0, .int .i64 0, .string s, .int .i64 0, .slice none 0 0, .slice none 0 0, .slice none 0 0] 41)) (.slice (some ⟨w.heap.size, 0, none⟩) 1 1) [thenA s] :=
  lit_isL (xs := [thenA s]) acells_len (heap_alloc_new w _) rfl (by simp) (by simp)

end Go.Proofs.YtfladhogkhhlcaaGreatDoor
