/- Whether a node may be, of any operator, by the walk (mkCheckC.py). -/
import Derived.Test.YteigfipgmghgmaaGreatDoorNCheck
import Derived.Test.YteigfipgmghgmaaGreatDoorNCopyN
import Derived.Test.YteigfipgmghgmaaGreatDoorNRuleAll
namespace Go.Proofs.YteigfipgmghgmaaGreatDoor
open Go.RowKit

/-- What Check answers of a Constant's value. -/
def constE (xs : List Atr) (cs : List Cont) : Int := match (xs.zip cs).find? (fun p => isA ⟨#[118, 97, 108, 117, 101]⟩ 4 p.1) with
  | some p => pbE p.1.ty p.2.d p.2.t
  | none => pbE 0 [] []

def checkF (r : Option (Int × Int × List Ra)) (op : ByteArray) (ins : List ByteArray) (out : ByteArray) (xs : List Atr) (cs : List Cont) : Int :=
  if checkE r ins out xs ≠ 0 then checkE r ins out xs else if (op.toList == [67, 111, 110, 115, 116, 97, 110, 116]) = true then constE xs cs else 0

theorem checkF_no {r : Option (Int × Int × List Ra)} {op : ByteArray} {ins : List ByteArray} {out : ByteArray} {xs : List Atr} {cs : List Cont} {e : Int} (h : checkE r ins out xs = e) (he : e ≠ 0) : checkF r op ins out xs cs = e := by
  unfold checkF
  rw [h, if_pos he]

theorem find_zip {R : Atr → Cont → Prop} {P : Atr → Bool} : ∀ {xs : List Atr} {cs : List Cont}, (∀ (j : Nat) (a : Atr), xs[j]? = some a → ∃ c, cs[j]? = some c ∧ R a c) →
    (xs.find? P = none ∧ (xs.zip cs).find? (fun p => P p.1) = none) ∨ ∃ a c, xs.find? P = some a ∧ (xs.zip cs).find? (fun p => P p.1) = some (a, c) ∧ R a c
  | [], _, _ => Or.inl ⟨rfl, by simp⟩
  | x :: l, [], h => by
    obtain ⟨c, hc, -⟩ := h 0 x rfl
    simp at hc
  | x :: l, c :: cs, h => by
    cases hx : P x with
    | true =>
      obtain ⟨c', hc, hr⟩ := h 0 x rfl
      obtain rfl : c = c' := by simpa using hc
      exact Or.inr ⟨x, c, by simp [hx], by simp [hx], hr⟩
    | false =>
      rcases find_zip (P := P) (xs := l) (cs := cs) (fun j a hj => h (j + 1) a hj) with ⟨e1, e2⟩ | ⟨a, c', e1, e2, e3⟩
      · exact Or.inl ⟨by simp [hx, e1], by rw [List.zip_cons_cons, List.find?_cons]; simp [hx, e2]⟩
      · exact Or.inr ⟨a, c', by simp [hx, e1], by rw [List.zip_cons_cons, List.find?_cons]; simp [hx, e2], e3⟩

theorem value_of {w : World} {xs : List Atr} {cs : List Cont} (hc : ∀ (j : Nat) (a : Atr), xs[j]? = some a → ∃ c, cs[j]? = some c ∧ Has w a c) :
    ∃ (A : Atr) (b : Bool) (d t : List Int), (xs.find? (isA ⟨#[118, 97, 108, 117, 101]⟩ 4)).getD noAtr = A ∧ (xs.find? (isA ⟨#[118, 97, 108, 117, 101]⟩ 4)).isSome = b ∧ IsInts w A.dv.v d ∧ IsInts w A.tv.v t ∧ constE xs cs = pbE A.ty d t := by
  have nil : IsInts w (.slice none 0 0) [] := ⟨none, 0, rfl, by simp, by simp, by simp, fun _ => ⟨rfl, rfl⟩, fun h => by simp at h, fun z hz => by simp at hz⟩
  rcases find_zip (P := isA ⟨#[118, 97, 108, 117, 101]⟩ 4) hc with ⟨e1, e2⟩ | ⟨a, c, e1, e2, e3⟩
  · exact ⟨noAtr, false, [], [], by rw [e1]; rfl, by rw [e1]; rfl, nil, nil, by unfold constE; rw [e2]; rfl⟩
  · exact ⟨a, true, c.d, c.t, by rw [e1]; rfl, by rw [e1]; rfl, e3.d, e3.t, by unfold constE; rw [e2]⟩

set_option maxRecDepth 100000 in
set_option maxHeartbeats 6400000 in
theorem checkc_any (n : Nod) (xs : List Atr) (cs : List Cont) (ins : List ByteArray) (r : Option (Int × Int × List Ra)) (w : World) (hl : Laid w) (hin : IsStrs w n.iv.v ins) (hv : IsAttrs w n.av.v xs) (hc : ∀ (j : Nat) (a : Atr), xs[j]? = some a → ∃ c, cs[j]? = some c ∧ Has w a c) (hsz : ∀ a ∈ xs, a.s.size ≤ 4294967296)
    (hrule : ∀ wx, Laid wx → Calls Tryz.prog 98 #[.string n.op] wx fun e w' => Ruled r w' e ∧ wx.grownBy w' none) (hrs : ∀ lo hi rs, r = some (lo, hi, rs) → rs.length ≤ 20) :
    Calls Tryz.prog 70 #[nval n] w fun e w' => e = .returned (.int .i64 (checkF r n.op ins n.out xs cs)) ∧ w.grownBy w' none := by
  have TH := hide (fun (wx : World) (hx : w.grownBy wx none) => then_any n xs wx (hl.more hx) (hv.more hx) hsz)
  have CA := hide (fun (rv : Value) (rs : List Ra) (wx : World) (hx : w.grownBy wx none) (hr : IsRas wx rv rs) => checkattrs_any n xs rv rs wx (hv.more hx) hr)
  have CS := hide (fun (wx : World) (hx : w.grownBy wx none) => contains_str n.iv.v ins ⟨#[]⟩ wx (hin.more hx))
  have FN := hide (fun (p q : Nat) (wx : World) (hg : w.grownBy wx none) (hp : wx.heap[p]? = some (.cells #[.string ⟨#[118, 97, 108, 117, 101]⟩] 9 (0, 0))) (hq : wx.heap[q]? = some (.cells #[.int .i64 4] 3 (0, 0))) => first_named n xs p q ⟨#[118, 97, 108, 117, 101]⟩ 4 wx (hv.more hg) hp hq)
  obtain ⟨A, bA, dA, tA, hA1, hA2, hA3, hA4, hA5⟩ := value_of hc
  rw [hA1, hA2] at FN
  have HA3 := hide hA3
  have HA4 := hide hA4
  have HA5 := hide hA5
  clear hA1 hA2 hA3 hA4 hA5 hc
  have RU := hide (fun (wx : World) (hx : w.grownBy wx none) => hrule wx (hl.more hx))
  obtain ⟨op, nam, ⟨ia, il, ic⟩, out, ⟨ao, al, cap⟩⟩ := n
  obtain ⟨ia', ic', hiv, i1, i2, i3⟩ := hin.form
  obtain ⟨rfl, rfl, rfl⟩ : ia = ia' ∧ il = ins.length ∧ ic = ic' := by simpa [Sl.v] using hiv
  unfold nval at TH CA FN ⊢
  unfold aval at FN
  simp only [Sl.v] at TH CA CS RU FN ⊢
  clear hl hin hv hsz hrule hiv
  obtain ⟨w0, hw0⟩ : ∃ w0, w0 = w.alloc (.cells #[.string op, .string nam, .slice ia ins.length ic, .string out, .slice ao al cap] 25) := ⟨_, rfl⟩
  have g0 : w.grownBy w0 none := by rw [hw0]; exact grown_new _ _
  have hb0 := heap_alloc_new w (.cells #[.string op, .string nam, .slice ia ins.length ic, .string out, .slice ao al cap] 25)
  obtain ⟨n0, -⟩ := nod_cells (n := ⟨op, nam, ⟨ia, ins.length, ic⟩, out, ⟨ao, al, cap⟩⟩) hb0
  rw [← hw0] at hb0
  have HZ0 : Hid (w0.heap.size = w.heap.size + 1) := by show _ = _; rw [hw0]; simp
  have BX : Hid (∀ wx, w0.grownBy wx none → wx.heap[w.heap.size]? = some (.cells #[.string op, .string nam, .slice ia ins.length ic, .string out, .slice ao al cap] 25 (0, 0))) := fun wx hg => box_kept hb0 hg
  clear hb0
  go_enter Tryz.func70, Tryz.ntmps70
  go_wp2_with fail
  rw [← hw0]
  clear hw0 n0
  refine (RU.out w0 g0).mono ?_
  rintro e w1 ⟨hru, hg1⟩
  have g1 := grown_trans g0 hg1
  rcases hr : r with _ | ⟨lo, hi, rs⟩
  · rw [hr] at hru
    have hru : e = .returned (.tuple #[.agg #[.int .i64 0, .int .i64 0, .slice none 0 0], .bool false]) := hru
    subst hru
    have E : Hid (checkE r ins out xs = 5) := by show _ = _; rw [hr]; rfl
    clear hr hrs
    go_wp2
    go_ret
    exact ⟨by rw [checkF_no E.out (by decide)]; rfl, grown_trans g1 (grown_new _ _)⟩
  · rw [hr] at hru
    obtain ⟨a, nn, c, rfl, ho⟩ := hru
    have hrl : rs.length ≤ 20 := hrs lo hi rs hr
    have HC0 : Hid (checkE r ins out xs = if (ins.length : Int) < lo then 4 else if hi < (ins.length : Int) then 4 else if (out.toList == []) || ins.any (isS ⟨#[]⟩) then 5 else if attrsE rs xs = 0 then thenE (xs.find? (isA ⟨#[116, 104, 101, 110]⟩ 3)) else attrsE rs xs) := by show _ = _; rw [hr]; rfl
    clear hr
    obtain ⟨W1, hW1⟩ : ∃ W1, W1 = w1.alloc (.cells #[.int .i64 lo, .int .i64 hi, .slice a nn c] 134) := ⟨_, rfl⟩
    have G1 : w1.grownBy W1 none := by rw [hW1]; exact grown_new _ _
    have B1 := heap_alloc_new w1 (.cells #[.int .i64 lo, .int .i64 hi, .slice a nn c] 134)
    obtain ⟨z0, z1, z2, -⟩ := rule_cells B1
    have IR := hide (ho.isL (bytes := 32) rcells_len (by omega))
    have g2 := grown_trans g1 G1
    have g02 := grown_trans hg1 G1
    obtain ⟨n0, n1, n2, n3, n4⟩ := nod_cells (n := ⟨op, nam, ⟨ia, ins.length, ic⟩, out, ⟨ao, al, cap⟩⟩) (BX.out W1 g02)
    have RB : Hid (∀ wx, W1.grownBy wx none → wx.heap[w1.heap.size]? = some (.cells #[.int .i64 lo, .int .i64 hi, .slice a nn c] 134 (0, 0))) := fun wx hg => box_kept (by rw [hW1]; exact B1) hg
    rw [hW1] at n0 n1 n2 n3 n4
    clear B1 hrs ho
    by_cases h4 : (ins.length : Int) < lo
    · have E : Hid (checkE r ins out xs = 4) := by show _ = _; rw [HC0.out, if_pos h4]
      go_wp2
      rw [← hW1]
      go_ret
      exact ⟨by rw [checkF_no E.out (by decide)]; rfl, g2⟩
    · by_cases h5 : hi < (ins.length : Int)
      · have E : Hid (checkE r ins out xs = 4) := by show _ = _; rw [HC0.out, if_neg h4, if_pos h5]
        go_wp2
        rw [← hW1]
        go_ret
        exact ⟨by rw [checkF_no E.out (by decide)]; rfl, g2⟩
      · have HC1 : Hid (checkE r ins out xs = if (out.toList == []) || ins.any (isS ⟨#[]⟩) then 5 else if attrsE rs xs = 0 then thenE (xs.find? (isA ⟨#[116, 104, 101, 110]⟩ 3)) else attrsE rs xs) := by show _ = _; rw [HC0.out, if_neg h4, if_neg h5]
        by_cases ho6 : (out.toList == []) = true
        · have E : Hid (checkE r ins out xs = 5) := by show _ = _; rw [HC1.out, ho6]; rfl
          go_wp2
          rw [← hW1]
          go_ret
          exact ⟨by rw [checkF_no E.out (by decide)]; rfl, g2⟩
        · have ho7 : (out.toList == []) = false := by simpa using ho6
          have HO7 := hide ho7
          clear ho6
          go_wp2_with fail
          rw [← hW1]
          clear hW1 z0 z1 z2 n0 n1 n2 n3 n4
          refine (CS.out W1 g2).mono ?_
          rintro e w3 ⟨rfl, hg3⟩
          have g3 := grown_trans g2 hg3
          obtain ⟨z0, z1, z2, -⟩ := rule_cells (RB.out w3 hg3)
          obtain ⟨n0, n1, n2, n3, n4⟩ := nod_cells (n := ⟨op, nam, ⟨ia, ins.length, ic⟩, out, ⟨ao, al, cap⟩⟩) (BX.out w3 (grown_trans g02 hg3))
          cases hany : ins.any (isS ⟨#[]⟩) with
          | true =>
            have E : Hid (checkE r ins out xs = 5) := by show _ = _; rw [HC1.out, hany, Bool.or_true]; rfl
            clear hany
            go_wp2
            go_ret
            exact ⟨by rw [checkF_no E.out (by decide)]; rfl, g3⟩
          | false =>
            have HC2 : Hid (checkE r ins out xs = if attrsE rs xs = 0 then thenE (xs.find? (isA ⟨#[116, 104, 101, 110]⟩ 3)) else attrsE rs xs) := by show _ = _; rw [HC1.out, hany, HO7.out]; rfl
            clear hany
            go_wp2_with fail
            refine (CA.out _ rs w3 g3 (IR.out.more (grown_trans G1 hg3))).mono ?_
            rintro e w4 ⟨rfl, hg4⟩
            have g4 := grown_trans g3 hg4
            clear z0 z1 z2 n0 n1 n2 n3 n4
            obtain ⟨n0, n1, n2, n3, n4⟩ := nod_cells (n := ⟨op, nam, ⟨ia, ins.length, ic⟩, out, ⟨ao, al, cap⟩⟩) (BX.out w4 (grown_trans (grown_trans g02 hg3) hg4))
            obtain ⟨X, hX⟩ : ∃ X, X = attrsE rs xs := ⟨_, rfl⟩
            rw [← hX] at HC2
            rw [← hX]
            clear hX
            by_cases h0 : X = 0
            · subst h0
              have HC3 : Hid (checkE r ins out xs = thenE (xs.find? (isA ⟨#[116, 104, 101, 110]⟩ 3))) := by show _ = _; rw [HC2.out]; rfl
              go_wp2_with fail
              refine (TH.out w4 g4).mono ?_
              rintro e w5 ⟨v, rfl, ho5, hg5⟩
              have g5 := grown_trans g4 hg5
              obtain ⟨va, vc, rfl⟩ := OwnsL.form ho5
              clear n0 n1 n2 n3 n4 ho5
              obtain ⟨n0, n1, n2, n3, n4⟩ := nod_cells (n := ⟨op, nam, ⟨ia, ins.length, ic⟩, out, ⟨ao, al, cap⟩⟩) (BX.out w5 (grown_trans (grown_trans (grown_trans g02 hg3) hg4) hg5))
              obtain ⟨Y, hY⟩ : ∃ Y, Y = thenE (xs.find? (isA ⟨#[116, 104, 101, 110]⟩ 3)) := ⟨_, rfl⟩
              rw [← hY] at HC3
              rw [← hY]
              clear hY
              by_cases h1 : Y = 0
              · subst h1
                by_cases hop : (op.toList == [67, 111, 110, 115, 116, 97, 110, 116]) = true
                · have EF : Hid (checkF r op ins out xs cs = pbE A.ty dA tA) := by
                    show _ = _
                    unfold checkF
                    rw [if_neg (by rw [HC3.out]; simp), if_pos hop, HA5.out]
                  have g05 := grown_trans (grown_trans (grown_trans g02 hg3) hg4) hg5
                  have HZ5 : Hid (w.heap.size < w5.heap.size) := by have := g05.size; have := HZ0.out; show _ < _; omega
                  go_wp2_with fail
                  go_cut [8, 9] from 58 to 66 (fun p b wx => ∃ N : Nat, p = .pointer (some ⟨N, 0, none⟩) ∧ wx.heap[N]? = some (.cells #[.string A.name, .int .i64 A.kind, .int .i64 A.f, .int .i64 A.i, .string A.s, .int .i64 A.ty, .slice A.dv.a A.dv.n A.dv.c, .slice A.tv.a A.tv.n A.tv.c, .slice A.iv.a A.iv.n A.iv.c] 92 (0, 0)) ∧ w.grownBy wx none)
                  case first =>
                    have gd := grown_drew (grown_refl w5)
                    go_region_held3 (fun w' => w'.cell? ⟨w.heap.size, 0, none⟩ = some (.string op) ∧ w'.cell? ⟨w.heap.size, 1, none⟩ = some (.string nam) ∧ w'.cell? ⟨w.heap.size, 2, none⟩ = some (.slice ia ins.length ic) ∧ w'.cell? ⟨w.heap.size, 3, none⟩ = some (.string out) ∧ w'.cell? ⟨w.heap.size, 4, none⟩ = some (.slice ao al cap)) (go_keep) (first | (go_at_call 58; refine (named_any _ _ _).mono ?_; rintro e w1 ⟨rfl, hp1, hq1, hg1⟩; have g51 : w5.grownBy w1 none := (by first | exact grown_trans gd hg1 | exact grown_trans (grown_trans gd (grown_new _ _)) hg1); obtain ⟨n0, n1, n2, n3, n4⟩ := nod_cells (n := ⟨op, nam, ⟨ia, ins.length, ic⟩, out, ⟨ao, al, cap⟩⟩) (BX.out w1 (grown_trans g05 g51)); have hz1 : w.heap.size ≠ w1.heap.size := (by have := g51.size; have := HZ5.out; omega); have hzz : w.heap.size ≠ w5.heap.size := (by have := HZ5.out; omega); have hz1' := hz1.symm; have hzz' := hzz.symm; try (have hp2 : w1.heap[w5.heap.size + 1]? = some (.cells #[.string ⟨#[118, 97, 108, 117, 101]⟩] 9 (0, 0)) := (by have h := hp1; rw [show ((w5.alloc (.cells #[.string ⟨#[]⟩, .int .i64 0, .int .i64 0, .int .i64 0, .string ⟨#[]⟩, .int .i64 0, .slice none 0 0, .slice none 0 0, .slice none 0 0] 92)).drew).heap.size = w5.heap.size + 1 by simp] at h; exact h)); try (have hq2 : w1.heap[w5.heap.size + 1 + 1]? = some (.cells #[.int .i64 4] 3 (0, 0)) := (by have h := hq1; rw [show ((w5.alloc (.cells #[.string ⟨#[]⟩, .int .i64 0, .int .i64 0, .int .i64 0, .string ⟨#[]⟩, .int .i64 0, .slice none 0 0, .slice none 0 0, .slice none 0 0] 92)).drew).heap.size = w5.heap.size + 1 by simp] at h; exact h)); try (have kz : w1.heap[w5.heap.size]? = some (.cells #[.string ⟨#[]⟩, .int .i64 0, .int .i64 0, .int .i64 0, .string ⟨#[]⟩, .int .i64 0, .slice none 0 0, .slice none 0 0, .slice none 0 0] 92 (0, 0)) := box_kept (show ((w5.alloc (.cells #[.string ⟨#[]⟩, .int .i64 0, .int .i64 0, .int .i64 0, .string ⟨#[]⟩, .int .i64 0, .slice none 0 0, .slice none 0 0, .slice none 0 0] 92)).drew).heap[w5.heap.size]? = _ from heap_alloc_new w5 _) hg1)) | (go_at_call 57; refine (FN.out _ _ _ (by first | exact grown_trans g5 g51 | exact grown_trans (grown_trans g5 g51) (grown_new _ _)) (by first | exact hp1 | exact hp2 | exact box_kept hp1 (grown_new _ _)) (by first | exact hq1 | exact hq2 | exact box_kept hq1 (grown_new _ _))).mono ?_; rintro e w2 ⟨rfl, hg2⟩; have g52 : w5.grownBy w2 none := (by first | exact grown_trans g51 hg2 | exact grown_trans (grown_trans g51 (grown_new _ _)) hg2); obtain ⟨n0, n1, n2, n3, n4⟩ := nod_cells (n := ⟨op, nam, ⟨ia, ins.length, ic⟩, out, ⟨ao, al, cap⟩⟩) (BX.out w2 (grown_trans g05 g52)); try (first | have kz2 := box_kept kz hg2 | have kz2 : w2.heap[w1.heap.size]? = some (.cells #[.string ⟨#[]⟩, .int .i64 0, .int .i64 0, .int .i64 0, .string ⟨#[]⟩, .int .i64 0, .slice none 0 0, .slice none 0 0, .slice none 0 0] 92 (0, 0)) := box_kept (heap_alloc_new w1 _) hg2); try (obtain ⟨f0, f1, f2, f3, f4, f5, f6, f7, f8⟩ := atr_frozen kz2); try (obtain ⟨k0, k1, k2, k3, k4, k5, k6, k7, k8⟩ := atr_cells (a := noAtr) kz2)))
                    · have GG := hide (grown_trans g5 g52)
                      go_wp2_with fail
                      go_meet
                      exact ⟨_, rfl, heap_alloc_new w2 _, grown_trans GG.out (grown_new w2 _)⟩
                    · obtain ⟨hX, gX⟩ := store9 (.string A.name) (.int .i64 A.kind) (.int .i64 A.f) (.int .i64 A.i) (.string A.s) (.int .i64 A.ty) (.slice A.dv.a A.dv.n A.dv.c) (.slice A.tv.a A.tv.n A.tv.c) (.slice A.iv.a A.iv.n A.iv.c) (grown_trans g5 g52) (show w.heap.size ≤ w1.heap.size by have := g51.size; have := HZ5.out; omega) kz2
                      have HX := hide hX
                      have GX := hide gX
                      clear hX gX
                      go_wp2_with fail
                      go_meet
                      exact ⟨_, rfl, HX.out, GX.out⟩
                    · obtain ⟨hX, gX⟩ := store9 (.string A.name) (.int .i64 A.kind) (.int .i64 A.f) (.int .i64 A.i) (.string A.s) (.int .i64 A.ty) (.slice A.dv.a A.dv.n A.dv.c) (.slice A.tv.a A.tv.n A.tv.c) (.slice A.iv.a A.iv.n A.iv.c) (grown_trans g5 g52) (show w.heap.size ≤ w5.heap.size by have := HZ5.out; omega) kz2
                      have HX := hide hX
                      have GX := hide gX
                      clear hX gX
                      go_wp2_with fail
                      go_meet
                      exact ⟨_, rfl, HX.out, GX.out⟩
                  case rest =>
                    obtain ⟨N, rfl, hN, hg⟩ := hcut
                    obtain ⟨-, -, -, -, -, c5, c6, c7, -⟩ := atr_cells hN
                    have HG := hide hg
                    have PB := hide (pbcheck_any A.ty A.dv.v A.tv.v dA tA wc (HA3.out.more hg) (HA4.out.more hg))
                    clear hN hg n0 n1 n2 n3 n4
                    go_wp2_with fail
                    refine PB.out.mono ?_
                    rintro e w6 ⟨rfl, hg6⟩
                    go_wp2
                    go_ret
                    exact ⟨by rw [EF.out]; rfl, grown_trans HG.out hg6⟩
                · have hop' : (op.toList == [67, 111, 110, 115, 116, 97, 110, 116]) = false := by simpa using hop
                  have EF : Hid (checkF r op ins out xs cs = 0) := by
                    show _ = _
                    unfold checkF
                    rw [if_neg (by rw [HC3.out]; simp), if_neg hop]
                  clear hop
                  go_wp2
                  go_ret
                  exact ⟨by rw [EF.out]; rfl, g5⟩
              · have h2 : (Y == 0) = false := by simpa using h1
                have h3' : (Y != 0) = true := by simp [bne, h2]
                have HY0 := hide h1
                clear h1
                go_wp2
                go_ret
                exact ⟨by rw [checkF_no HC3.out HY0.out]; rfl, g5⟩
            · have E : Hid (checkE r ins out xs = X) := by show _ = _; rw [HC2.out, if_neg h0]
              have h2 : (X == 0) = false := by simpa using h0
              have h3' : (X != 0) = true := by simp [bne, h2]
              have HX0 := hide h0
              clear h0
              go_wp2
              go_ret
              exact ⟨by rw [checkF_no E.out HX0.out]; rfl, g4⟩

theorem rules_few : ∀ r ∈ rules, r.2.2.2.length ≤ 20 := by decide

/-- schema.Check of any node. -/
theorem check_all (n : Nod) (xs : List Atr) (cs : List Cont) (ins : List ByteArray) (w : World) (hl : Laid w) (hin : IsStrs w n.iv.v ins) (hv : IsAttrs w n.av.v xs) (hc : ∀ (j : Nat) (a : Atr), xs[j]? = some a → ∃ c, cs[j]? = some c ∧ Has w a c) (hsz : ∀ a ∈ xs, a.s.size ≤ 4294967296) :
    Calls Tryz.prog 70 #[nval n] w fun e w' => e = .returned (.int .i64 (checkF (ruleF n.op) n.op ins n.out xs cs)) ∧ w.grownBy w' none := by
  refine checkc_any n xs cs ins (ruleF n.op) w hl hin hv hc hsz (fun wx h => ruleof_any n.op wx h) ?_
  intro lo hi rs h
  unfold ruleF at h
  cases hf : rules.find? (fun r => r.1 == n.op.toList) with
  | none => rw [hf] at h; cases h
  | some r =>
    rw [hf] at h
    have := rules_few r (List.mem_of_find?_eq_some hf)
    simp only [Option.map_some, Option.some.injEq] at h
    rw [h] at this
    exact this
end Go.Proofs.YteigfipgmghgmaaGreatDoor
