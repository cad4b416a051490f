/- Whether a node may be, by the walk. -/
import Derived.Test.YteigfipgmghgmaaGreatDoorNChk
namespace Go.Proofs.YteigfipgmghgmaaGreatDoor
open Go.RowKit

/-- What Check answers of a node that is no Constant. -/
def checkE (r : Option (Int × Int × List Ra)) (ins : List ByteArray) (out : ByteArray) (xs : List Atr) : Int := match r with
  | none => 5
  | some (lo, hi, rs) => if (ins.length : Int) < lo then 4 else if hi < (ins.length : Int) then 4 else if (out.toList == []) || ins.any (isS ⟨#[]⟩) then 5 else if attrsE rs xs = 0 then thenE (xs.find? (isA ⟨#[116, 104, 101, 110]⟩ 3)) else attrsE rs xs

set_option maxRecDepth 100000 in
set_option maxHeartbeats 6400000 in
theorem check_of (n : Nod) (xs : List Atr) (ins : List ByteArray) (r : Option (Int × Int × List Ra)) (w : World) (hl : Laid w) (hin : IsStrs w n.iv.v ins) (hv : IsAttrs w n.av.v xs) (hsz : ∀ a ∈ xs, a.s.size ≤ 4294967296)
    (hrule : ∀ wx, Laid wx → Calls Tryz.prog 98 #[.string n.op] wx fun e w' => Ruled r w' e ∧ wx.grownBy w' none) (hrs : ∀ lo hi rs, r = some (lo, hi, rs) → rs.length ≤ 20) (hop : (n.op.toList == [67, 111, 110, 115, 116, 97, 110, 116]) = false) :
    Calls Tryz.prog 70 #[nval n] w fun e w' => e = .returned (.int .i64 (checkE r ins n.out xs)) ∧ w.grownBy w' none := by
  have TH := hide (fun (wx : World) (hx : w.grownBy wx none) => then_any n xs wx (hl.more hx) (hv.more hx) hsz)
  have CA := hide (fun (rv : Value) (rs : List Ra) (wx : World) (hx : w.grownBy wx none) (hr : IsRas wx rv rs) => checkattrs_any n xs rv rs wx (hv.more hx) hr)
  have CS := hide (fun (wx : World) (hx : w.grownBy wx none) => contains_str n.iv.v ins ⟨#[]⟩ wx (hin.more hx))
  have RU := hide (fun (wx : World) (hx : w.grownBy wx none) => hrule wx (hl.more hx))
  obtain ⟨op, nam, ⟨ia, il, ic⟩, out, ⟨ao, al, cap⟩⟩ := n
  obtain ⟨ia', ic', hiv, i1, i2, i3⟩ := hin.form
  obtain ⟨rfl, rfl, rfl⟩ : ia = ia' ∧ il = ins.length ∧ ic = ic' := by simpa [Sl.v] using hiv
  unfold nval at TH CA ⊢
  simp only [Sl.v] at TH CA CS RU hop ⊢
  clear hl hin hv hsz hrule hiv
  obtain ⟨w0, hw0⟩ : ∃ w0, w0 = w.alloc (.cells #[.string op, .string nam, .slice ia ins.length ic, .string out, .slice ao al cap] 25) := ⟨_, rfl⟩
  have g0 : w.grownBy w0 none := by rw [hw0]; exact grown_new _ _
  have hb0 := heap_alloc_new w (.cells #[.string op, .string nam, .slice ia ins.length ic, .string out, .slice ao al cap] 25)
  obtain ⟨n0, -⟩ := nod_cells (n := ⟨op, nam, ⟨ia, ins.length, ic⟩, out, ⟨ao, al, cap⟩⟩) hb0
  rw [← hw0] at hb0
  have BX : Hid (∀ wx, w0.grownBy wx none → wx.heap[w.heap.size]? = some (.cells #[.string op, .string nam, .slice ia ins.length ic, .string out, .slice ao al cap] 25 (0, 0))) := fun wx hg => box_kept hb0 hg
  clear hb0
  go_enter Tryz.func70, Tryz.ntmps70
  go_wp2_with fail
  rw [← hw0]
  clear hw0 n0
  refine (RU.out w0 g0).mono ?_
  rintro e w1 ⟨hru, hg1⟩
  have g1 := grown_trans g0 hg1
  rcases hr : r with _ | ⟨lo, hi, rs⟩
  · rw [hr] at hru
    have hru : e = .returned (.tuple #[.agg #[.int .i64 0, .int .i64 0, .slice none 0 0], .bool false]) := hru
    subst hru
    have E : Hid (checkE r ins out xs = 5) := by show _ = _; rw [hr]; rfl
    clear hr hrs
    go_wp2
    go_ret
    exact ⟨by rw [E.out]; rfl, grown_trans g1 (grown_new _ _)⟩
  · rw [hr] at hru
    obtain ⟨a, nn, c, rfl, ho⟩ := hru
    have hrl : rs.length ≤ 20 := hrs lo hi rs hr
    have HC0 : Hid (checkE r ins out xs = if (ins.length : Int) < lo then 4 else if hi < (ins.length : Int) then 4 else if (out.toList == []) || ins.any (isS ⟨#[]⟩) then 5 else if attrsE rs xs = 0 then thenE (xs.find? (isA ⟨#[116, 104, 101, 110]⟩ 3)) else attrsE rs xs) := by show _ = _; rw [hr]; rfl
    clear hr
    obtain ⟨W1, hW1⟩ : ∃ W1, W1 = w1.alloc (.cells #[.int .i64 lo, .int .i64 hi, .slice a nn c] 134) := ⟨_, rfl⟩
    have G1 : w1.grownBy W1 none := by rw [hW1]; exact grown_new _ _
    have B1 := heap_alloc_new w1 (.cells #[.int .i64 lo, .int .i64 hi, .slice a nn c] 134)
    obtain ⟨z0, z1, z2, -⟩ := rule_cells B1
    have IR := hide (ho.isL (bytes := 32) rcells_len (by omega))
    have g2 := grown_trans g1 G1
    have g02 := grown_trans hg1 G1
    obtain ⟨n0, n1, n2, n3, n4⟩ := nod_cells (n := ⟨op, nam, ⟨ia, ins.length, ic⟩, out, ⟨ao, al, cap⟩⟩) (BX.out W1 g02)
    have RB : Hid (∀ wx, W1.grownBy wx none → wx.heap[w1.heap.size]? = some (.cells #[.int .i64 lo, .int .i64 hi, .slice a nn c] 134 (0, 0))) := fun wx hg => box_kept (by rw [hW1]; exact B1) hg
    rw [hW1] at n0 n1 n2 n3 n4
    clear B1 hrs ho
    by_cases h4 : (ins.length : Int) < lo
    · have E : Hid (checkE r ins out xs = 4) := by show _ = _; rw [HC0.out, if_pos h4]
      go_wp2
      rw [← hW1]
      go_ret
      exact ⟨by rw [E.out]; rfl, g2⟩
    · by_cases h5 : hi < (ins.length : Int)
      · have E : Hid (checkE r ins out xs = 4) := by show _ = _; rw [HC0.out, if_neg h4, if_pos h5]
        go_wp2
        rw [← hW1]
        go_ret
        exact ⟨by rw [E.out]; rfl, g2⟩
      · have HC1 : Hid (checkE r ins out xs = if (out.toList == []) || ins.any (isS ⟨#[]⟩) then 5 else if attrsE rs xs = 0 then thenE (xs.find? (isA ⟨#[116, 104, 101, 110]⟩ 3)) else attrsE rs xs) := by show _ = _; rw [HC0.out, if_neg h4, if_neg h5]
        by_cases ho6 : (out.toList == []) = true
        · have E : Hid (checkE r ins out xs = 5) := by show _ = _; rw [HC1.out, ho6]; rfl
          go_wp2
          rw [← hW1]
          go_ret
          exact ⟨by rw [E.out]; rfl, g2⟩
        · have ho7 : (out.toList == []) = false := by simpa using ho6
          have HO7 := hide ho7
          clear ho6
          go_wp2_with fail
          rw [← hW1]
          clear hW1 z0 z1 z2 n0 n1 n2 n3 n4
          refine (CS.out W1 g2).mono ?_
          rintro e w3 ⟨rfl, hg3⟩
          have g3 := grown_trans g2 hg3
          obtain ⟨z0, z1, z2, -⟩ := rule_cells (RB.out w3 hg3)
          obtain ⟨n0, n1, n2, n3, n4⟩ := nod_cells (n := ⟨op, nam, ⟨ia, ins.length, ic⟩, out, ⟨ao, al, cap⟩⟩) (BX.out w3 (grown_trans g02 hg3))
          cases hany : ins.any (isS ⟨#[]⟩) with
          | true =>
            have E : Hid (checkE r ins out xs = 5) := by show _ = _; rw [HC1.out, hany, Bool.or_true]; rfl
            clear hany
            go_wp2
            go_ret
            exact ⟨by rw [E.out]; rfl, g3⟩
          | false =>
            have HC2 : Hid (checkE r ins out xs = if attrsE rs xs = 0 then thenE (xs.find? (isA ⟨#[116, 104, 101, 110]⟩ 3)) else attrsE rs xs) := by show _ = _; rw [HC1.out, hany, HO7.out]; rfl
            clear hany
            go_wp2_with fail
            refine (CA.out _ rs w3 g3 (IR.out.more (grown_trans G1 hg3))).mono ?_
            rintro e w4 ⟨rfl, hg4⟩
            have g4 := grown_trans g3 hg4
            clear z0 z1 z2 n0 n1 n2 n3 n4
            obtain ⟨n0, n1, n2, n3, n4⟩ := nod_cells (n := ⟨op, nam, ⟨ia, ins.length, ic⟩, out, ⟨ao, al, cap⟩⟩) (BX.out w4 (grown_trans (grown_trans g02 hg3) hg4))
            obtain ⟨X, hX⟩ : ∃ X, X = attrsE rs xs := ⟨_, rfl⟩
            rw [← hX] at HC2
            rw [← hX]
            clear hX
            by_cases h0 : X = 0
            · subst h0
              have HC3 : Hid (checkE r ins out xs = thenE (xs.find? (isA ⟨#[116, 104, 101, 110]⟩ 3))) := by show _ = _; rw [HC2.out]; rfl
              go_wp2_with fail
              refine (TH.out w4 g4).mono ?_
              rintro e w5 ⟨v, rfl, ho5, hg5⟩
              have g5 := grown_trans g4 hg5
              obtain ⟨va, vc, rfl⟩ := OwnsL.form ho5
              clear n0 n1 n2 n3 n4 ho5
              obtain ⟨n0, n1, n2, n3, n4⟩ := nod_cells (n := ⟨op, nam, ⟨ia, ins.length, ic⟩, out, ⟨ao, al, cap⟩⟩) (BX.out w5 (grown_trans (grown_trans (grown_trans g02 hg3) hg4) hg5))
              obtain ⟨Y, hY⟩ : ∃ Y, Y = thenE (xs.find? (isA ⟨#[116, 104, 101, 110]⟩ 3)) := ⟨_, rfl⟩
              rw [← hY] at HC3
              rw [← hY]
              clear hY
              by_cases h1 : Y = 0
              · subst h1
                go_wp2
                go_ret
                exact ⟨by rw [HC3.out]; rfl, g5⟩
              · have h2 : (Y == 0) = false := by simpa using h1
                have h3' : (Y != 0) = true := by simp [bne, h2]
                clear h1
                go_wp2
                go_ret
                exact ⟨by rw [HC3.out]; rfl, g5⟩
            · have E : Hid (checkE r ins out xs = X) := by show _ = _; rw [HC2.out, if_neg h0]
              have h2 : (X == 0) = false := by simpa using h0
              have h3' : (X != 0) = true := by simp [bne, h2]
              clear h0
              go_wp2
              go_ret
              exact ⟨by rw [E.out]; rfl, g4⟩
end Go.Proofs.YteigfipgmghgmaaGreatDoor
