/- Whether bits are those of a Float, and whether a node's attributes may be, by the walk. -/
import Derived.Test.YteigfipgmghgmaaGreatDoorNIdx
namespace Go.Proofs.YteigfipgmghgmaaGreatDoor
open Go.RowKit

def fOK (f : Int) : Bool := decide (0 ≤ f) && (decide (f < 4294967296) && (f == 2143289344 || decide (bits BinOp.andNot IntKind.i64 f 2147483648 ≤ 2139095040)))

set_option maxRecDepth 100000 in
set_option maxHeartbeats 1600000 in
theorem flt_any (f : Int) (w : World) :
    Calls Tryz.prog 45 #[.int .i64 1, .int .i64 f] w fun e w' => e = .returned (.bool (fOK f)) ∧ w.grownBy w' none := by
  by_cases h0 : 0 ≤ f
  · by_cases h1 : f < 4294967296
    · by_cases h2 : f = 2143289344
      · subst h2
        go_enter Tryz.func45, Tryz.ntmps45
        go_wp2
        go_ret
        exact ⟨rfl, grown_refl _⟩
      · have h3 : (f == 2143289344) = false := by simpa using h2
        have H0 := hide h0
        have H1 := hide h1
        have H3 := hide h3
        go_enter Tryz.func45, Tryz.ntmps45
        go_wp2
        go_ret
        exact ⟨by rw [fOK, decide_eq_true H0.out, decide_eq_true H1.out]; simp [H3.out], grown_refl _⟩
    · have H1 := hide h1
      have H0 := hide h0
      go_enter Tryz.func45, Tryz.ntmps45
      go_wp2
      go_ret
      exact ⟨by rw [fOK, decide_eq_false (show ¬ f < 4294967296 by have := H1.out; omega)]; simp, grown_refl _⟩
  · have H0 := hide h0
    go_enter Tryz.func45, Tryz.ntmps45
    go_wp2
    go_ret
    exact ⟨by rw [fOK, decide_eq_false (show ¬ 0 ≤ f by have := H0.out; omega)]; rfl, grown_refl _⟩

/-- What the attributes from a place on are refused by. -/
def chk1 (rs : List Ra) (xs : List Atr) : List Atr → Nat → Option Int
  | [], _ => none
  | a :: l, i => match rs.find? (sameR a.name) with
    | none => some 5
    | some r => if (a.kind != r.kind) || (xs.take i).any (aheadA a.name) then some 4 else if (a.kind == 1) && !(fOK a.f) then some 4 else chk1 rs xs l (i + 1)

/-- Is one of those that must be there not there? -/
def lacks (rs : List Ra) (xs : List Atr) : Bool := rs.any (fun r => r.must && !(xs.find? (isA r.name r.kind)).isSome)

def attrsE (rs : List Ra) (xs : List Atr) : Int := match chk1 rs xs xs 0 with
  | some e => e
  | none => if lacks rs xs then 4 else 0

theorem chk1_at {rs : List Ra} {xs : List Atr} {k : Nat} (hk : k < xs.length) : chk1 rs xs (xs.drop k) k = match rs.find? (sameR xs[k].name) with
    | none => some 5
    | some r => if (xs[k].kind != r.kind) || (xs.take k).any (aheadA xs[k].name) then some 4 else if (xs[k].kind == 1) && !(fOK xs[k].f) then some 4 else chk1 rs xs (xs.drop (k + 1)) (k + 1) := by
  rw [List.drop_eq_getElem_cons hk, chk1]

theorem isL_take {α : Type} {bytes size : Nat} {f : α → List Value} {w : World} {ao : Option Addr} {len cap : Nat} {xs : List α} (h : IsL bytes size f w (.slice ao len cap) xs) (k : Nat) (hk : k ≤ xs.length) : IsL bytes size f w (.slice ao k cap) (xs.take k) := by
  obtain ⟨ao', cap', e, h1, h2, h3, h4, h5⟩ := h
  cases e
  have hl : (xs.take k).length = k := by rw [List.length_take]; omega
  refine ⟨ao, cap, by rw [hl], by omega, h2, ?_, fun e => ?_, fun hp => ?_⟩
  · rw [hl]; exact Nat.le_trans (Nat.mul_le_mul_right _ hk) h3
  · obtain ⟨rfl, hc⟩ := h4 e
    exact ⟨List.take_nil, hc⟩
  · obtain ⟨b, off, rfl, hc⟩ := h5 (by omega)
    refine ⟨b, off, rfl, fun j hj i hi => ?_⟩
    have hj' : j < xs.length := by omega
    have := hc j hj' i hi
    simpa [List.getElem_take] using this

theorem any_step' {l : List Ra} {f : Ra → Bool} {k : Nat} {x : Ra} (h : (l.take k).any f = false) (hx : l[k]? = some x) (hf : f x = false) : (l.take (k + 1)).any f = false := by
  rw [List.take_add_one, List.any_append, h, hx]
  simp [hf]

theorem attrsE_some {rs : List Ra} {xs : List Atr} {e : Int} (h : chk1 rs xs xs 0 = some e) : attrsE rs xs = e := by unfold attrsE; rw [h]

set_option maxRecDepth 100000 in
set_option maxHeartbeats 6400000 in
theorem checkattrs_any (n : Nod) (xs : List Atr) (rv : Value) (rs : List Ra) (w : World) (hv : IsAttrs w n.av.v xs) (hr : IsRas w rv rs) :
    Calls Tryz.prog 100 #[nval n, rv] w fun e w' => e = .returned (.int .i64 (attrsE rs xs)) ∧ w.grownBy w' none := by
  obtain ⟨op, nam, ⟨ia, il, ic⟩, out, ⟨ao, al, cap⟩⟩ := n
  simp only at hv
  obtain ⟨ao', cap', hav, h1, h2, h3⟩ := hv.form
  obtain ⟨rfl, rfl, rfl⟩ : ao = ao' ∧ al = xs.length ∧ cap = cap' := by simpa [Sl.v] using hav
  have HV := hide hv
  have HR := hide hr
  obtain ⟨ra, rc, rfl, k1, k2, k3⟩ := hr.form
  clear hv hav hr
  unfold nval
  simp only
  obtain ⟨w0, hw0⟩ : ∃ w0, w0 = w.alloc (.cells #[.string op, .string nam, .slice ia il ic, .string out, .slice ao xs.length cap] 25) := ⟨_, rfl⟩
  have g0 : w.grownBy w0 none := by rw [hw0]; exact grown_new _ _
  have hb0 := heap_alloc_new w (.cells #[.string op, .string nam, .slice ia il ic, .string out, .slice ao xs.length cap] 25)
  obtain ⟨-, -, -, -, n4⟩ := nod_cells (n := ⟨op, nam, ⟨ia, il, ic⟩, out, ⟨ao, xs.length, cap⟩⟩) hb0
  rw [← hw0] at hb0
  have BX : Hid (∀ wx, w0.grownBy wx none → wx.heap[w.heap.size]? = some (.cells #[.string op, .string nam, .slice ia il ic, .string out, .slice ao xs.length cap] 25 (0, 0))) := fun wx hg => box_kept hb0 hg
  clear hb0
  go_enter Tryz.func100, Tryz.ntmps100
  go_wp2_with fail
  rw [← hw0]
  clear hw0 n4
  go_loopw [17] (fun i wr => w0.grownBy wr none ∧ ∃ k : Nat, k ≤ xs.length ∧ i = .int .i64 k ∧ chk1 rs xs xs 0 = chk1 rs xs (xs.drop k) k) (fun i _ => xs.length - (intOf i).toNat)
  case atStart => exact ⟨grown_refl _, 0, Nat.zero_le _, rfl, rfl⟩
  case round =>
    obtain ⟨hg, k, hk, rfl, hpl⟩ := hrel
    have HPL := hide hpl
    clear hpl
    by_cases hlt : k < xs.length
    · have HVk := HV.out.more (grown_trans g0 hg)
      obtain ⟨b, off, rfl⟩ := HVk.addr hlt
      obtain ⟨a0, a1, a2, a3, a4, a5, a6, a7, a8⟩ := HVk.attr k hlt
      have HCK := hide (chk1_at (rs := rs) hlt)
      obtain ⟨A, hA⟩ : ∃ A, A = xs[k] := ⟨_, rfl⟩
      rw [← hA] at a0 a1 a2 a3 a4 a5 a6 a7 a8 HCK
      clear HVk hA
      obtain ⟨W1, hW1⟩ : ∃ W1, W1 = wr.alloc (.cells #[.string A.name, .int .i64 A.kind, .int .i64 A.f, .int .i64 A.i, .string A.s, .int .i64 A.ty, .slice A.dv.a A.dv.n A.dv.c, .slice A.tv.a A.tv.n A.tv.c, .slice A.iv.a A.iv.n A.iv.c] 92) := ⟨_, rfl⟩
      have G1 : wr.grownBy W1 none := by rw [hW1]; exact grown_new _ _
      have B1 := heap_alloc_new wr (.cells #[.string A.name, .int .i64 A.kind, .int .i64 A.f, .int .i64 A.i, .string A.s, .int .i64 A.ty, .slice A.dv.a A.dv.n A.dv.c, .slice A.tv.a A.tv.n A.tv.c, .slice A.iv.a A.iv.n A.iv.c] 92)
      rw [← hW1] at B1
      have AB : Hid (∀ wx, W1.grownBy wx none → wx.heap[wr.heap.size]? = some (.cells #[.string A.name, .int .i64 A.kind, .int .i64 A.f, .int .i64 A.i, .string A.s, .int .i64 A.ty, .slice A.dv.a A.dv.n A.dv.c, .slice A.tv.a A.tv.n A.tv.c, .slice A.iv.a A.iv.n A.iv.c] 92 (0, 0))) := fun wx hx => box_kept B1 hx
      have g1 := grown_trans hg G1
      clear B1
      go_wp2_with fail
      rw [← hW1]
      clear hW1 a0 a1 a2 a3 a4 a5 a6 a7 a8
      refine (index_ra _ rs wr.heap.size A.name W1 (HR.out.more (grown_trans g0 g1)) (atr_cells (AB.out W1 (grown_refl _))).1).mono ?_
      rintro e w2 ⟨rfl, hg2⟩
      have g2 := grown_trans g1 hg2
      rcases place_cases (sameR A.name) rs 0 with ⟨e1, e2⟩ | ⟨j, hj, e1, e2⟩
      · rw [e1]
        have E : Hid (attrsE rs xs = 5) := attrsE_some (by rw [HPL.out, HCK.out, e2])
        clear e1 e2
        go_wp2
        go_ret
        exact ⟨by rw [E.out]; rfl, grown_trans g0 g2⟩
      · rw [e1, show ((0 + j : Nat) : Int) = (j : Int) by simp]
        have HE2 := hide e2
        clear e1 e2
        have HRk := HR.out.more (grown_trans g0 g2)
        obtain ⟨rb, ro, rfl⟩ := HRk.addr hj
        obtain ⟨r0, r1, r2⟩ := HRk.ra j hj
        obtain ⟨c0, c1, c2, -⟩ := atr_cells (AB.out w2 hg2)
        obtain ⟨-, -, -, -, n4⟩ := nod_cells (n := ⟨op, nam, ⟨ia, il, ic⟩, out, ⟨some ⟨b, off, none⟩, xs.length, cap⟩⟩) (BX.out w2 g2)
        obtain ⟨R, hR⟩ : ∃ R, R = rs[j] := ⟨_, rfl⟩
        rw [← hR] at r0 r1 r2 HE2
        clear HRk hR r0 r2 c0
        have gd := grown_drew (grown_refl w2)
        have CA := hide (fun (wx : World) (hx : w2.grownBy wx none) => contains_ahead (.slice (some ⟨b, off, none⟩) k cap) (xs.take k) wr.heap.size A.name wx (isL_take (HV.out.more (grown_trans (grown_trans g0 g2) hx)) k (by omega)) (atr_cells (AB.out wx (grown_trans hg2 hx))).1)
        by_cases hkd : (A.kind != R.kind) = true
        · have HKD := hide hkd
          go_wp2_with fail
          have E : Hid (attrsE rs xs = 4) := attrsE_some (by rw [HPL.out, HCK.out, HE2.out]; simp only [HKD.out, Bool.true_or, if_true])
          go_region
          all_goals
            go_wp2
            go_ret
            exact ⟨by rw [E.out]; rfl, grown_drew (grown_trans g0 g2)⟩
        · have hkd' : (A.kind != R.kind) = false := by simpa using hkd
          have HKD := hide hkd'
          clear hkd
          have hkc : k ≤ cap := by omega
          go_wp2_with fail
          go_region_held3 (fun w' => w'.cell? ⟨wr.heap.size, 1, none⟩ = some (.int .i64 A.kind) ∧ w'.cell? ⟨rb, ro + j * 3 + 1, none⟩ = some (.int .i64 R.kind) ∧ w'.cell? ⟨w.heap.size, 4, none⟩ = some (.slice (some ⟨b, off, none⟩) xs.length cap)) (go_keep) (first | (go_at_call 143; refine (CA.out _ (by exact gd)).mono ?_; rintro e w3 ⟨rfl, hg3⟩; have g3 := grown_trans gd hg3; obtain ⟨c0, c1, c2, -⟩ := atr_cells (AB.out w3 (grown_trans hg2 g3)); obtain ⟨-, -, -, -, n4⟩ := nod_cells (n := ⟨op, nam, ⟨ia, il, ic⟩, out, ⟨some ⟨b, off, none⟩, xs.length, cap⟩⟩) (BX.out w3 (grown_trans g2 g3)); have r1 := cell_more r1 g3))
          have g13 := grown_trans g2 g3
          cases hah : (xs.take k).any (aheadA A.name) with
          | true =>
            have E : Hid (attrsE rs xs = 4) := attrsE_some (by rw [HPL.out, HCK.out, HE2.out]; simp only [HKD.out, hah, Bool.or_true, if_true])
            clear hah
            go_wp2
            go_ret
            exact ⟨by rw [E.out]; rfl, grown_trans g0 g13⟩
          | false =>
            have HAH := hide hah
            clear hah
            by_cases hk1 : A.kind = 1
            · have HK1 := hide hk1
              have e1 : (A.kind == 1) = true := by simpa using hk1
              have HE1 := hide e1
              rw [hk1] at c1
              clear hk1 e1
              go_wp2_with fail
              refine (flt_any A.f w3).mono ?_
              rintro e w4 ⟨rfl, hg4⟩
              have g14 := grown_trans g13 hg4
              cases hf : fOK A.f with
              | false =>
                have E : Hid (attrsE rs xs = 4) := attrsE_some (by rw [HPL.out, HCK.out, HE2.out]; simp [HKD.out, HAH.out, HE1.out, hf])
                clear hf
                go_wp2
                go_ret
                exact ⟨by rw [E.out]; rfl, grown_trans g0 g14⟩
              | true =>
                have HN : Hid (chk1 rs xs xs 0 = chk1 rs xs (xs.drop (k + 1)) (k + 1)) := by
                  show _ = _
                  rw [HPL.out, HCK.out, HE2.out]; simp [HKD.out, HAH.out, hf]
                clear hf
                go_wp2
                go_roundw
                case rel => exact ⟨g14, k + 1, by omega, by go_num, HN.out⟩
                case measure => simp [intOf]; omega
            · have e1 : (A.kind == 1) = false := by simpa using hk1
              have HN : Hid (chk1 rs xs xs 0 = chk1 rs xs (xs.drop (k + 1)) (k + 1)) := by
                show _ = _
                rw [HPL.out, HCK.out, HE2.out]; simp [HKD.out, HAH.out, e1]
              clear hk1
              go_wp2
              go_roundw
              case rel => exact ⟨g13, k + 1, by omega, by go_num, HN.out⟩
              case measure => simp [intOf]; omega
    · obtain rfl : k = xs.length := by omega
      have HN : Hid (chk1 rs xs xs 0 = none) := by
        show _ = _
        rw [HPL.out, List.drop_of_length_le (Nat.le_refl _)]; rfl
      obtain ⟨wo, rfl⟩ : ∃ wo, wo = wr := ⟨_, rfl⟩
      go_wp2_with fail
      go_loopw [57] (fun i wr => w0.grownBy wr none ∧ ∃ k : Nat, k ≤ rs.length ∧ i = .int .i64 k ∧ (rs.take k).any (fun r => r.must && !(xs.find? (isA r.name r.kind)).isSome) = false) (fun i _ => rs.length - (intOf i).toNat)
      case atStart => exact ⟨hg, 0, Nat.zero_le _, rfl, rfl⟩
      case round =>
        obtain ⟨hgr, k, hk', rfl, hno⟩ := hrel
        have HNO := hide hno
        clear hno
        by_cases hlt2 : k < rs.length
        · have HRk := HR.out.more (grown_trans g0 hgr)
          obtain ⟨rb, ro, rfl⟩ := HRk.addr hlt2
          obtain ⟨a0, a1, a2⟩ := HRk.ra k hlt2
          have HRK : Hid (rs[k]? = some rs[k]) := List.getElem?_eq_getElem hlt2
          obtain ⟨R, hR⟩ : ∃ R, R = rs[k] := ⟨_, rfl⟩
          rw [← hR] at a0 a1 a2 HRK
          clear HRk hR
          obtain ⟨W1, hW1⟩ : ∃ W1, W1 = wr.alloc (.cells #[.string R.name, .int .i64 R.kind, .bool R.must] 161) := ⟨_, rfl⟩
          have G1 : wr.grownBy W1 none := by rw [hW1]; exact grown_new _ _
          have B1 := heap_alloc_new wr (.cells #[.string R.name, .int .i64 R.kind, .bool R.must] 161)
          have HZ1 : Hid (W1.heap.size = wr.heap.size + 1 ∧ w.heap.size < wr.heap.size) := by
            refine ⟨by rw [hW1]; simp, ?_⟩
            exact (Array.getElem?_eq_some_iff.1 (BX.out wr hgr)).1
          rw [← hW1] at B1
          have RB : Hid (∀ wx, W1.grownBy wx none → wx.heap[wr.heap.size]? = some (.cells #[.string R.name, .int .i64 R.kind, .bool R.must] 161 (0, 0))) := fun wx hx => box_kept B1 hx
          have g1 := grown_trans hgr G1
          have FN := hide (fun (p q : Nat) (wx : World) (hx : W1.grownBy wx none) (hp : wx.heap[p]? = some (.cells #[.string R.name] 9 (0, 0))) (hq : wx.heap[q]? = some (.cells #[.int .i64 R.kind] 3 (0, 0))) => first_named ⟨op, nam, ⟨ia, il, ic⟩, out, ⟨ao, xs.length, cap⟩⟩ xs p q R.name R.kind wx (HV.out.more (grown_trans (grown_trans g0 g1) hx)) hp hq)
          unfold nval at FN
          simp only at FN
          clear B1
          go_wp2
          rw [← hW1]
          clear hW1 a0 a1 a2
          go_cut [13] from 58 to 77 (fun b wx => b = .bool (xs.find? (isA R.name R.kind)).isSome ∧ W1.grownBy wx none)
          case first =>
            obtain ⟨n0, n1, n2, n3, n4⟩ := nod_cells (n := ⟨op, nam, ⟨ia, il, ic⟩, out, ⟨ao, xs.length, cap⟩⟩) (BX.out W1 g1)
            obtain ⟨q0, q1, q2⟩ := ra_cells (RB.out W1 (grown_refl _))
            have gd := grown_drew (grown_refl W1)
            cases hf : xs.find? (isA R.name R.kind) with
            | none =>
              have HF := hide hf
              rw [hf] at FN
              simp only [Option.getD_none, aval, noAtr, Option.isSome_none] at FN ⊢
              go_region_held3 (fun w' => w'.cell? ⟨w.heap.size, 0, none⟩ = some (.string op) ∧ w'.cell? ⟨w.heap.size, 1, none⟩ = some (.string nam) ∧ w'.cell? ⟨w.heap.size, 2, none⟩ = some (.slice ia il ic) ∧ w'.cell? ⟨w.heap.size, 3, none⟩ = some (.string out) ∧ w'.cell? ⟨w.heap.size, 4, none⟩ = some (.slice ao xs.length cap) ∧ w'.cell? ⟨wr.heap.size, 0, none⟩ = some (.string R.name) ∧ w'.cell? ⟨wr.heap.size, 1, none⟩ = some (.int .i64 R.kind) ∧ w'.cell? ⟨wr.heap.size, 2, none⟩ = some (.bool R.must)) (go_keep) (first | (go_at_call 58; refine (named_any _ _ _).mono ?_; rintro e v1 ⟨rfl, hp1, hq1, hg1⟩; have g1_v1 : W1.grownBy v1 none := (by first | exact grown_trans gd hg1 | exact grown_trans (grown_drew (grown_new W1 _)) hg1); obtain ⟨n0, n1, n2, n3, n4⟩ := nod_cells (n := ⟨op, nam, ⟨ia, il, ic⟩, out, ⟨ao, xs.length, cap⟩⟩) (BX.out v1 (grown_trans g1 g1_v1)); obtain ⟨q0, q1, q2⟩ := ra_cells (RB.out v1 g1_v1); have y1 : w.heap.size ≠ v1.heap.size := (by have := g1_v1.size; have := HZ1.out; omega); have y1' := y1.symm; have y2 : wr.heap.size ≠ v1.heap.size := (by have := g1_v1.size; have := HZ1.out; omega); have y2' := y2.symm; have y3 : w.heap.size ≠ W1.heap.size := (by have := HZ1.out; omega); have y3' := y3.symm; have y4 : wr.heap.size ≠ W1.heap.size := (by have := HZ1.out; omega); have y4' := y4.symm; try (have hp2 : v1.heap[W1.heap.size + 1]? = some (.cells #[.string R.name] 9 (0, 0)) := (by have h := hp1; rw [show ((W1.alloc (.cells #[.string ⟨#[]⟩, .int .i64 0, .int .i64 0, .int .i64 0, .string ⟨#[]⟩, .int .i64 0, .slice none 0 0, .slice none 0 0, .slice none 0 0] 92)).drew).heap.size = W1.heap.size + 1 by simp] at h; exact h)); try (have hq2 : v1.heap[W1.heap.size + 1 + 1]? = some (.cells #[.int .i64 R.kind] 3 (0, 0)) := (by have h := hq1; rw [show ((W1.alloc (.cells #[.string ⟨#[]⟩, .int .i64 0, .int .i64 0, .int .i64 0, .string ⟨#[]⟩, .int .i64 0, .slice none 0 0, .slice none 0 0, .slice none 0 0] 92)).drew).heap.size = W1.heap.size + 1 by simp] at h; exact h)); try (have kz : v1.heap[W1.heap.size]? = some (.cells #[.string ⟨#[]⟩, .int .i64 0, .int .i64 0, .int .i64 0, .string ⟨#[]⟩, .int .i64 0, .slice none 0 0, .slice none 0 0, .slice none 0 0] 92 (0, 0)) := box_kept (show ((W1.alloc (.cells #[.string ⟨#[]⟩, .int .i64 0, .int .i64 0, .int .i64 0, .string ⟨#[]⟩, .int .i64 0, .slice none 0 0, .slice none 0 0, .slice none 0 0] 92)).drew).heap[W1.heap.size]? = _ from heap_alloc_new W1 _) hg1)) | (go_at_call 57; refine (FN.out _ _ _ (by first | exact g1_v1 | exact grown_trans g1_v1 (grown_new _ _)) (by first | exact hp1 | exact hp2 | exact box_kept hp1 (grown_new _ _)) (by first | exact hq1 | exact hq2 | exact box_kept hq1 (grown_new _ _))).mono ?_; rintro e v2 ⟨rfl, hg2⟩; have g1_v2 : W1.grownBy v2 none := (by first | exact grown_trans g1_v1 hg2 | exact grown_trans (grown_trans g1_v1 (grown_new _ _)) hg2); obtain ⟨n0, n1, n2, n3, n4⟩ := nod_cells (n := ⟨op, nam, ⟨ia, il, ic⟩, out, ⟨ao, xs.length, cap⟩⟩) (BX.out v2 (grown_trans g1 g1_v2)); obtain ⟨q0, q1, q2⟩ := ra_cells (RB.out v2 g1_v2); try (first | have kz2 := box_kept kz hg2 | have kz2 : v2.heap[v1.heap.size]? = some (.cells #[.string ⟨#[]⟩, .int .i64 0, .int .i64 0, .int .i64 0, .string ⟨#[]⟩, .int .i64 0, .slice none 0 0, .slice none 0 0, .slice none 0 0] 92 (0, 0)) := box_kept (heap_alloc_new v1 _) hg2); try (obtain ⟨f0, f1, f2, f3, f4, f5, f6, f7, f8⟩ := atr_frozen kz2); try (obtain ⟨k0, k1, k2, k3, k4, k5, k6, k7, k8⟩ := atr_cells (a := noAtr) kz2)))
              · have GG := hide g1_v2
                go_wp2_with fail
                go_meet
                exact ⟨by rw [HF.out]; rfl, grown_trans GG.out (grown_new v2 _)⟩
              · obtain ⟨-, gX⟩ := store9 (.string ⟨#[]⟩) (.int .i64 0) (.int .i64 0) (.int .i64 0) (.string ⟨#[]⟩) (.int .i64 0) (.slice none 0 0) (.slice none 0 0) (.slice none 0 0) g1_v2 (show W1.heap.size ≤ v1.heap.size from g1_v1.size) kz2
                have GX := hide gX
                clear gX
                go_wp2_with fail
                go_meet
                exact ⟨by rw [HF.out]; rfl, GX.out⟩
              · obtain ⟨-, gX⟩ := store9 (.string ⟨#[]⟩) (.int .i64 0) (.int .i64 0) (.int .i64 0) (.string ⟨#[]⟩) (.int .i64 0) (.slice none 0 0) (.slice none 0 0) (.slice none 0 0) g1_v2 (Nat.le_refl _) kz2
                have GX := hide gX
                clear gX
                go_wp2_with fail
                go_meet
                exact ⟨by rw [HF.out]; rfl, GX.out⟩
            | some a =>
              have HF := hide hf
              rw [hf] at FN
              simp only [Option.getD_some, aval, Option.isSome_some] at FN ⊢
              go_region_held3 (fun w' => w'.cell? ⟨w.heap.size, 0, none⟩ = some (.string op) ∧ w'.cell? ⟨w.heap.size, 1, none⟩ = some (.string nam) ∧ w'.cell? ⟨w.heap.size, 2, none⟩ = some (.slice ia il ic) ∧ w'.cell? ⟨w.heap.size, 3, none⟩ = some (.string out) ∧ w'.cell? ⟨w.heap.size, 4, none⟩ = some (.slice ao xs.length cap) ∧ w'.cell? ⟨wr.heap.size, 0, none⟩ = some (.string R.name) ∧ w'.cell? ⟨wr.heap.size, 1, none⟩ = some (.int .i64 R.kind) ∧ w'.cell? ⟨wr.heap.size, 2, none⟩ = some (.bool R.must)) (go_keep) (first | (go_at_call 58; refine (named_any _ _ _).mono ?_; rintro e v1 ⟨rfl, hp1, hq1, hg1⟩; have g1_v1 : W1.grownBy v1 none := (by first | exact grown_trans gd hg1 | exact grown_trans (grown_drew (grown_new W1 _)) hg1); obtain ⟨n0, n1, n2, n3, n4⟩ := nod_cells (n := ⟨op, nam, ⟨ia, il, ic⟩, out, ⟨ao, xs.length, cap⟩⟩) (BX.out v1 (grown_trans g1 g1_v1)); obtain ⟨q0, q1, q2⟩ := ra_cells (RB.out v1 g1_v1); have y1 : w.heap.size ≠ v1.heap.size := (by have := g1_v1.size; have := HZ1.out; omega); have y1' := y1.symm; have y2 : wr.heap.size ≠ v1.heap.size := (by have := g1_v1.size; have := HZ1.out; omega); have y2' := y2.symm; have y3 : w.heap.size ≠ W1.heap.size := (by have := HZ1.out; omega); have y3' := y3.symm; have y4 : wr.heap.size ≠ W1.heap.size := (by have := HZ1.out; omega); have y4' := y4.symm; try (have hp2 : v1.heap[W1.heap.size + 1]? = some (.cells #[.string R.name] 9 (0, 0)) := (by have h := hp1; rw [show ((W1.alloc (.cells #[.string ⟨#[]⟩, .int .i64 0, .int .i64 0, .int .i64 0, .string ⟨#[]⟩, .int .i64 0, .slice none 0 0, .slice none 0 0, .slice none 0 0] 92)).drew).heap.size = W1.heap.size + 1 by simp] at h; exact h)); try (have hq2 : v1.heap[W1.heap.size + 1 + 1]? = some (.cells #[.int .i64 R.kind] 3 (0, 0)) := (by have h := hq1; rw [show ((W1.alloc (.cells #[.string ⟨#[]⟩, .int .i64 0, .int .i64 0, .int .i64 0, .string ⟨#[]⟩, .int .i64 0, .slice none 0 0, .slice none 0 0, .slice none 0 0] 92)).drew).heap.size = W1.heap.size + 1 by simp] at h; exact h)); try (have kz : v1.heap[W1.heap.size]? = some (.cells #[.string ⟨#[]⟩, .int .i64 0, .int .i64 0, .int .i64 0, .string ⟨#[]⟩, .int .i64 0, .slice none 0 0, .slice none 0 0, .slice none 0 0] 92 (0, 0)) := box_kept (show ((W1.alloc (.cells #[.string ⟨#[]⟩, .int .i64 0, .int .i64 0, .int .i64 0, .string ⟨#[]⟩, .int .i64 0, .slice none 0 0, .slice none 0 0, .slice none 0 0] 92)).drew).heap[W1.heap.size]? = _ from heap_alloc_new W1 _) hg1)) | (go_at_call 57; refine (FN.out _ _ _ (by first | exact g1_v1 | exact grown_trans g1_v1 (grown_new _ _)) (by first | exact hp1 | exact hp2 | exact box_kept hp1 (grown_new _ _)) (by first | exact hq1 | exact hq2 | exact box_kept hq1 (grown_new _ _))).mono ?_; rintro e v2 ⟨rfl, hg2⟩; have g1_v2 : W1.grownBy v2 none := (by first | exact grown_trans g1_v1 hg2 | exact grown_trans (grown_trans g1_v1 (grown_new _ _)) hg2); obtain ⟨n0, n1, n2, n3, n4⟩ := nod_cells (n := ⟨op, nam, ⟨ia, il, ic⟩, out, ⟨ao, xs.length, cap⟩⟩) (BX.out v2 (grown_trans g1 g1_v2)); obtain ⟨q0, q1, q2⟩ := ra_cells (RB.out v2 g1_v2); try (first | have kz2 := box_kept kz hg2 | have kz2 : v2.heap[v1.heap.size]? = some (.cells #[.string ⟨#[]⟩, .int .i64 0, .int .i64 0, .int .i64 0, .string ⟨#[]⟩, .int .i64 0, .slice none 0 0, .slice none 0 0, .slice none 0 0] 92 (0, 0)) := box_kept (heap_alloc_new v1 _) hg2); try (obtain ⟨f0, f1, f2, f3, f4, f5, f6, f7, f8⟩ := atr_frozen kz2); try (obtain ⟨k0, k1, k2, k3, k4, k5, k6, k7, k8⟩ := atr_cells (a := noAtr) kz2)))
              · have GG := hide g1_v2
                go_wp2_with fail
                go_meet
                exact ⟨by rw [HF.out]; rfl, grown_trans GG.out (grown_new v2 _)⟩
              · obtain ⟨-, gX⟩ := store9 (.string a.name) (.int .i64 a.kind) (.int .i64 a.f) (.int .i64 a.i) (.string a.s) (.int .i64 a.ty) (.slice a.dv.a a.dv.n a.dv.c) (.slice a.tv.a a.tv.n a.tv.c) (.slice a.iv.a a.iv.n a.iv.c) g1_v2 (show W1.heap.size ≤ v1.heap.size from g1_v1.size) kz2
                have GX := hide gX
                clear gX
                go_wp2_with fail
                go_meet
                exact ⟨by rw [HF.out]; rfl, GX.out⟩
              · obtain ⟨-, gX⟩ := store9 (.string a.name) (.int .i64 a.kind) (.int .i64 a.f) (.int .i64 a.i) (.string a.s) (.int .i64 a.ty) (.slice a.dv.a a.dv.n a.dv.c) (.slice a.tv.a a.tv.n a.tv.c) (.slice a.iv.a a.iv.n a.iv.c) g1_v2 (Nat.le_refl _) kz2
                have GX := hide gX
                clear gX
                go_wp2_with fail
                go_meet
                exact ⟨by rw [HF.out]; rfl, GX.out⟩
          case rest =>
            obtain ⟨rfl, hgc⟩ := hcut
            obtain ⟨q0, q1, q2⟩ := ra_cells (RB.out wc hgc)
            have gc := grown_trans g1 hgc
            cases hm : R.must with
            | false =>
              have HS : Hid ((rs.take (k + 1)).any (fun r => r.must && !(xs.find? (isA r.name r.kind)).isSome) = false) := any_step' HNO.out HRK.out (by simp [hm])
              rw [hm] at q2
              go_wp2
              go_roundw
              case rel => exact ⟨gc, k + 1, by omega, by go_num, HS.out⟩
              case measure => simp [intOf]; omega
            | true =>
              rw [hm] at q2
              cases hs : (xs.find? (isA R.name R.kind)).isSome with
              | true =>
                have HS : Hid ((rs.take (k + 1)).any (fun r => r.must && !(xs.find? (isA r.name r.kind)).isSome) = false) := any_step' HNO.out HRK.out (by simp [hs])
                clear hs
                go_wp2
                go_roundw
                case rel => exact ⟨gc, k + 1, by omega, by go_num, HS.out⟩
                case measure => simp [intOf]; omega
              | false =>
                have E : Hid (attrsE rs xs = 4) := by
                  show _ = _
                  have h1 : lacks rs xs = true := List.any_eq_true.2 ⟨R, List.mem_of_getElem? HRK.out, by simp only [hm, hs]; rfl⟩
                  unfold attrsE
                  rw [HN.out]
                  simp [h1]
                clear hs
                go_wp2
                go_ret
                exact ⟨by rw [E.out]; rfl, grown_trans g0 gc⟩
        · obtain rfl : k = rs.length := by omega
          have E : Hid (attrsE rs xs = 0) := by
            show _ = _
            have h1 := HNO.out
            rw [List.take_of_length_le (Nat.le_refl _)] at h1
            unfold attrsE lacks
            rw [HN.out]
            simp only [h1]
            rfl
          go_wp2
          go_ret
          exact ⟨by rw [E.out]; rfl, grown_trans g0 hgr⟩
end Go.Proofs.YteigfipgmghgmaaGreatDoor
