/- Whether a node may be: the document's answer, by the walk. -/
import Derived.Test.YtlmaobkfmplalaaDoorNRAttrs
import Derived.Test.YtlmaobkfmplalaaDoorNRThen
import Derived.Test.YtlmaobkfmplalaaDoorNNode
namespace Go.Proofs.YtlmaobkfmplalaaDoor
open Go.RowKit

set_option maxRecDepth 100000 in
theorem rules_apart0 : ∀ r ∈ rules, r.2.2.2.Pairwise (fun a b => (a.name.data.toList == b.name.data.toList) = false) := by decide

theorem rules_apart {op : ByteArray} {lo hi : Int} {rs : List Ra} (h : ruleF op = some (lo, hi, rs)) : rs.Pairwise Apart ∧ rs.length ≤ 20 := by
  unfold ruleF at h
  cases hf : rules.find? (fun r => r.1 == op.toList) with
  | none => rw [hf] at h; cases h
  | some r =>
    rw [hf] at h
    have h1 := rules_apart0 r (List.mem_of_find?_eq_some hf)
    have h2 := rules_few r (List.mem_of_find?_eq_some hf)
    simp only [Option.map_some, Option.some.injEq] at h
    rw [h] at h1 h2
    refine ⟨h1.imp fun {a b} e => ?_, h2⟩
    unfold Apart
    rw [bytes_toList, bytes_toList]
    exact e

theorem eqS_nil (ins : List ByteArray) : ins.any (eqS ⟨#[]⟩) = ins.any (isS ⟨#[]⟩) := by
  congr 1
  funext y
  unfold eqS isS
  rw [Bool.eq_iff_iff, beq_iff_eq, beq_iff_eq]
  exact eq_comm

set_option maxRecDepth 100000 in
set_option maxHeartbeats 3200000 in
theorem rvalue_any (n : Nod) (xs : List Atr) (w : World) (hv : IsAttrs w n.av.v xs) :
    Calls Tryd.prog 39 #[nval n] w fun e w' => e = .returned (.agg #[.int .i64 ((xs.find? (isA ⟨#[118, 97, 108, 117, 101]⟩ 4)).getD noAtr).ty, ((xs.find? (isA ⟨#[118, 97, 108, 117, 101]⟩ 4)).getD noAtr).dv.v, ((xs.find? (isA ⟨#[118, 97, 108, 117, 101]⟩ 4)).getD noAtr).tv.v]) ∧ w.grownBy w' none := by
  have FN := hide (fun (wx : World) (hg : w.grownBy wx none) => rfind_any n xs ⟨#[118, 97, 108, 117, 101]⟩ 4 wx (hv.more hg))
  obtain ⟨A, hA⟩ : ∃ A, A = (xs.find? (isA ⟨#[118, 97, 108, 117, 101]⟩ 4)).getD noAtr := ⟨_, rfl⟩
  obtain ⟨bF, hbF⟩ : ∃ bF, bF = (xs.find? (isA ⟨#[118, 97, 108, 117, 101]⟩ 4)).isSome := ⟨_, rfl⟩
  rw [← hA] at FN ⊢
  rw [← hbF] at FN
  clear hA hbF
  obtain ⟨op, nam, ⟨ia, il, ic⟩, out, ⟨ao, al, cap⟩⟩ := n
  unfold nval at FN ⊢
  unfold aval at FN
  simp only [Sl.v] at FN ⊢
  clear hv
  obtain ⟨w0, hw0⟩ : ∃ w0, w0 = (w.alloc (.cells #[.string op, .string nam, .slice ia il ic, .string out, .slice ao al cap] 25)).alloc (.cells #[.int .i64 0, .slice none 0 0, .slice none 0 0] 43) := ⟨_, rfl⟩
  have g0 : w.grownBy w0 none := by rw [hw0]; exact grown_trans (grown_new _ _) (grown_new _ _)
  have hbx := two_boxes w (.cells #[.string op, .string nam, .slice ia il ic, .string out, .slice ao al cap] 25) (.cells #[.int .i64 0, .slice none 0 0, .slice none 0 0] 43)
  obtain ⟨n0, n1, n2, n3, n4⟩ := nod_cells (n := ⟨op, nam, ⟨ia, il, ic⟩, out, ⟨ao, al, cap⟩⟩) hbx.1
  have hb2 := hbx.2
  rw [← hw0] at hb2
  have B2 := hide hb2
  clear hbx hb2
  go_enter Tryd.func39, Tryd.ntmps39
  go_wp2_with fail
  rw [← hw0]
  clear hw0 n0 n1 n2 n3 n4
  refine (FN.out w0 g0).mono ?_
  rintro e w1 ⟨rfl, hg1⟩
  have gA := grown_new w1 (.cells #[.string A.name, .int .i64 A.kind, .int .i64 A.f, .int .i64 A.i, .string A.s, .int .i64 A.ty, .slice A.dv.a A.dv.n A.dv.c, .slice A.tv.a A.tv.n A.tv.c, .slice A.iv.a A.iv.n A.iv.c] 45)
  have bA := heap_alloc_new w1 (.cells #[.string A.name, .int .i64 A.kind, .int .i64 A.f, .int .i64 A.i, .string A.s, .int .i64 A.ty, .slice A.dv.a A.dv.n A.dv.c, .slice A.tv.a A.tv.n A.tv.c, .slice A.iv.a A.iv.n A.iv.c] 45)
  obtain ⟨c0, c1, c2, c3, c4, c5, c6, c7, c8⟩ := atr_cells (a := A) bA
  have B3 := hide (box_kept (box_kept B2.out hg1) gA)
  obtain ⟨f0, f1, f2⟩ := ten_frozen B3.out
  obtain ⟨k0, k1, k2⟩ := ten_cells B3.out
  obtain ⟨hX, gX⟩ := store3t (.int .i64 A.ty) (.slice A.dv.a A.dv.n A.dv.c) (.slice A.tv.a A.tv.n A.tv.c) B3.out
  have HX := hide hX
  have GX : Hid (w.grownBy _ none) := grown_trans_row (grown_trans (grown_trans g0 hg1) gA) gX (fun r e => by cases e; omega)
  clear hX gX bA gA
  go_wp2
  refine bodyPost_ret (ret_ten rfl _ _ (w.heap.size + 1) rfl HX.out) rfl ?_
  exact ⟨rfl, GX.out⟩

set_option maxRecDepth 100000 in
set_option maxHeartbeats 6400000 in
theorem rnode_any (n : Nod) (ins : List ByteArray) (xs : List Atr) (cs : List Cont) (w : World) (hn : NodeIn w n ins xs cs) :
    Calls Tryd.prog 13 #[nval n] w fun e w' => e = .returned (.int .i64 (checkF (ruleF n.op) n.op ins n.out xs cs)) ∧ w.grownBy w' none := by
  have HN := hide hn
  have TH := hide (fun (wx : World) (hx : w.grownBy wx none) => rthen_any n xs wx (hn.av.more hx) hn.short)
  have AT := hide (fun (fv : Sl) (fs rs : List Ra) (hrs : rs = fs ++ [thenRa]) (base : Nat) (wx : World) (hvk : ∀ w', wx.grownBy w' fv.v.ownBlock → IsAttrs w' n.av.v xs) (hf : OwnsF wx base fv.v fs) (hb : base ≤ wx.heap.size) (hfl : fs.length ≤ 20) (hd : rs.Pairwise Apart) => rattrs_any n xs fv fs rs hrs base wx hvk hf hb hfl hd)
  have AM := hide (fun (wx : World) (hx : w.grownBy wx none) => among_any ⟨#[]⟩ n.iv.v ins wx (hn.ins.more hx))
  have VA := hide (fun (wx : World) (hx : w.grownBy wx none) => rvalue_any n xs wx (hn.av.more hx))
  obtain ⟨A, bA, dA, tA, hA1, hA2, hA3, hA4, hA5⟩ := value_of hn.has
  rw [hA1] at VA
  rw [eqS_nil] at AM
  have HA3 := hide hA3
  have HA4 := hide hA4
  have HA5 := hide hA5
  clear hA1 hA2 hA3 hA4 hA5
  obtain ⟨op, nam, ⟨ia, il, ic⟩, out, ⟨ao, al, cap⟩⟩ := n
  obtain ⟨ia', ic', hiv, i1, i2, i3⟩ := hn.ins.form
  obtain ⟨rfl, rfl, rfl⟩ : ia = ia' ∧ il = ins.length ∧ ic = ic' := by simpa [Sl.v] using hiv
  unfold nval at TH AT VA ⊢
  simp only [Sl.v] at TH AM VA ⊢
  clear hiv hn
  obtain ⟨w0, hw0⟩ : ∃ w0, w0 = w.alloc (.cells #[.string op, .string nam, .slice ia ins.length ic, .string out, .slice ao al cap] 25) := ⟨_, rfl⟩
  have g0 : w.grownBy w0 none := by rw [hw0]; exact grown_new _ _
  have hb0 := heap_alloc_new w (.cells #[.string op, .string nam, .slice ia ins.length ic, .string out, .slice ao al cap] 25)
  obtain ⟨n0, -⟩ := nod_cells (n := ⟨op, nam, ⟨ia, ins.length, ic⟩, out, ⟨ao, al, cap⟩⟩) hb0
  rw [← hw0] at hb0
  have HZ0 : Hid (w0.heap.size = w.heap.size + 1) := by show _ = _; rw [hw0]; simp
  have BX : Hid (∀ wx, w0.grownBy wx none → wx.heap[w.heap.size]? = some (.cells #[.string op, .string nam, .slice ia ins.length ic, .string out, .slice ao al cap] 25 (0, 0))) := fun wx hg => box_kept hb0 hg
  clear hb0
  go_enter Tryd.func13, Tryd.ntmps13
  go_wp2_with fail
  rw [← hw0]
  clear hw0 n0
  refine (rof_any op w0).mono ?_
  rintro e w1 ⟨hru, hg1⟩
  have g1 := grown_trans g0 hg1
  obtain ⟨r, hr0⟩ : ∃ r, r = ruleF op := ⟨_, rfl⟩
  have HR0 := hide hr0
  rw [← hr0] at hru
  clear hr0
  rcases hr : r with _ | ⟨lo, hi, rs⟩
  · rw [hr] at hru
    have hru : e = .returned (.tuple #[.int .i64 0, .int .i64 0, .slice none 0 0, .bool false]) := hru
    subst hru
    have E : Hid (checkE r ins out xs = 5) := by show _ = _; rw [hr]; rfl
    have EF : Hid (checkF (ruleF op) op ins out xs cs = 5) := by show _ = _; rw [← HR0.out]; exact checkF_no E.out (by decide)
    clear hr
    go_wp2
    go_ret
    exact ⟨by rw [EF.out]; rfl, g1⟩
  · rw [hr] at hru
    obtain ⟨fv, fs, rfl, hrs, hof⟩ := hru
    obtain ⟨hpa, hfew⟩ := rules_apart (HR0.out.symm.trans hr)
    have HC0 : Hid (checkE r ins out xs = if (ins.length : Int) < lo then 4 else if hi < (ins.length : Int) then 4 else if (out.toList == []) || ins.any (isS ⟨#[]⟩) then 5 else if attrsE rs xs = 0 then thenE (xs.find? (isA ⟨#[116, 104, 101, 110]⟩ 3)) else attrsE rs xs) := by show _ = _; rw [hr]; rfl
    have NO : Hid (∀ {e : Int}, checkE r ins out xs = e → e ≠ 0 → checkF (ruleF op) op ins out xs cs = e) := fun h he => by rw [← HR0.out]; exact checkF_no h he
    have HRS := hide hrs
    have HOF := hide hof
    have HPA := hide hpa
    have hfl : fs.length ≤ 20 := by rw [hrs, List.length_append] at hfew; omega
    have FLT : Hid (∀ b, fv.v.ownBlock = some b → w0.heap.size ≤ b ∧ b < w1.heap.size) := fun b e => World.ownsRow.lt hof b e
    clear hr hrs hof hpa hfew
    obtain ⟨n0, n1, n2, n3, n4⟩ := nod_cells (n := ⟨op, nam, ⟨ia, ins.length, ic⟩, out, ⟨ao, al, cap⟩⟩) (BX.out w1 hg1)
    by_cases h4 : (ins.length : Int) < lo
    · have E : Hid (checkE r ins out xs = 4) := by show _ = _; rw [HC0.out, if_pos h4]
      go_wp2
      go_ret
      exact ⟨by rw [NO.out E.out (by decide)]; rfl, g1⟩
    · by_cases h5 : hi < (ins.length : Int)
      · have E : Hid (checkE r ins out xs = 4) := by show _ = _; rw [HC0.out, if_neg h4, if_pos h5]
        go_wp2
        go_ret
        exact ⟨by rw [NO.out E.out (by decide)]; rfl, g1⟩
      · have HC1 : Hid (checkE r ins out xs = if (out.toList == []) || ins.any (isS ⟨#[]⟩) then 5 else if attrsE rs xs = 0 then thenE (xs.find? (isA ⟨#[116, 104, 101, 110]⟩ 3)) else attrsE rs xs) := by show _ = _; rw [HC0.out, if_neg h4, if_neg h5]
        by_cases ho6 : (out.toList == []) = true
        · have E : Hid (checkE r ins out xs = 5) := by show _ = _; rw [HC1.out, ho6]; rfl
          go_wp2
          go_ret
          exact ⟨by rw [NO.out E.out (by decide)]; rfl, g1⟩
        · have ho7 : (out.toList == []) = false := by simpa using ho6
          have HO7 := hide ho7
          clear ho6
          go_wp2_with fail
          refine (AM.out w1 g1).mono ?_
          rintro e w3 ⟨rfl, hg3⟩
          have g3 := grown_trans g1 hg3
          have g03 := grown_trans hg1 hg3
          clear n0 n1 n2 n3 n4
          obtain ⟨n0, n1, n2, n3, n4⟩ := nod_cells (n := ⟨op, nam, ⟨ia, ins.length, ic⟩, out, ⟨ao, al, cap⟩⟩) (BX.out w3 g03)
          cases hany : ins.any (isS ⟨#[]⟩) with
          | true =>
            have E : Hid (checkE r ins out xs = 5) := by show _ = _; rw [HC1.out, hany, Bool.or_true]; rfl
            clear hany
            go_wp2
            go_ret
            exact ⟨by rw [NO.out E.out (by decide)]; rfl, g3⟩
          | false =>
            have HC2 : Hid (checkE r ins out xs = if attrsE rs xs = 0 then thenE (xs.find? (isA ⟨#[116, 104, 101, 110]⟩ 3)) else attrsE rs xs) := by show _ = _; rw [HC1.out, hany, HO7.out]; rfl
            clear hany
            have CA := hide (AT.out fv fs rs HRS.out w0.heap.size w3 (fun w' hx => HN.out.av.kept fun b hb _ => (hx.block b (by have := g3.size; omega) (fun e => by have := FLT.out b e.symm; have := HZ0.out; omega)).trans (g3.block b hb (by simp))) (HOF.out.more hg3) g03.size hfl HPA.out)
            go_wp2_with fail
            refine CA.out.mono ?_
            rintro e w4 ⟨rfl, hg4⟩
            have g4 : w.grownBy w4 none := grown_trans_row g3 hg4 (fun r e => by have := FLT.out r e; have := HZ0.out; omega)
            have BN4 := hide ((hg4.block w.heap.size (by have := HZ0.out; have := g03.size; omega) (fun e => by have := FLT.out _ e.symm; have := HZ0.out; omega)).trans (BX.out w3 g03))
            clear n0 n1 n2 n3 n4
            obtain ⟨n0, n1, n2, n3, n4⟩ := nod_cells (n := ⟨op, nam, ⟨ia, ins.length, ic⟩, out, ⟨ao, al, cap⟩⟩) BN4.out
            obtain ⟨X, hX⟩ : ∃ X, X = attrsE rs xs := ⟨_, rfl⟩
            rw [← hX] at HC2
            rw [← hX]
            clear hX
            by_cases h0 : X = 0
            · subst h0
              have HC3 : Hid (checkE r ins out xs = thenE (xs.find? (isA ⟨#[116, 104, 101, 110]⟩ 3))) := by show _ = _; rw [HC2.out]; rfl
              go_wp2_with fail
              refine (TH.out w4 g4).mono ?_
              rintro e w5 ⟨v, rfl, ho5, hg5⟩
              have g5 := grown_trans g4 hg5
              obtain ⟨va, vc, rfl⟩ := OwnsL.form ho5
              clear n0 n1 n2 n3 n4 ho5
              obtain ⟨n0, n1, n2, n3, n4⟩ := nod_cells (n := ⟨op, nam, ⟨ia, ins.length, ic⟩, out, ⟨ao, al, cap⟩⟩) (box_kept BN4.out hg5)
              obtain ⟨Y, hY⟩ : ∃ Y, Y = thenE (xs.find? (isA ⟨#[116, 104, 101, 110]⟩ 3)) := ⟨_, rfl⟩
              rw [← hY] at HC3
              rw [← hY]
              clear hY
              by_cases h1 : Y = 0
              · subst h1
                by_cases hop : (op.toList == [67, 111, 110, 115, 116, 97, 110, 116]) = true
                · have EF : Hid (checkF (ruleF op) op ins out xs cs = pbE A.ty dA tA) := by
                    show _ = _
                    rw [← HR0.out]
                    unfold checkF
                    rw [if_neg (by rw [HC3.out]; simp), if_pos hop, HA5.out]
                  go_wp2_with fail
                  refine (VA.out w5 g5).mono ?_
                  rintro e w6 ⟨rfl, hg6⟩
                  have PB := hide (rpbcheck_any A.ty A.dv.v A.tv.v dA tA w6 (HA3.out.more (grown_trans g5 hg6)) (HA4.out.more (grown_trans g5 hg6)))
                  go_wp2_with fail
                  refine PB.out.mono ?_
                  rintro e w7 ⟨rfl, hg7⟩
                  go_wp2
                  go_ret
                  exact ⟨by rw [EF.out]; rfl, grown_trans (grown_trans g5 hg6) hg7⟩
                · have hop' : (op.toList == [67, 111, 110, 115, 116, 97, 110, 116]) = false := by simpa using hop
                  have EF : Hid (checkF (ruleF op) op ins out xs cs = 0) := by
                    show _ = _
                    rw [← HR0.out]
                    unfold checkF
                    rw [if_neg (by rw [HC3.out]; simp), if_neg hop]
                  clear hop
                  go_wp2
                  go_ret
                  exact ⟨by rw [EF.out]; rfl, g5⟩
              · have h2 : (Y == 0) = false := by simpa using h1
                have HY0 := hide h1
                clear h1
                go_wp2
                go_ret
                exact ⟨by rw [NO.out HC3.out HY0.out]; rfl, g5⟩
            · have E : Hid (checkE r ins out xs = X) := by show _ = _; rw [HC2.out, if_neg h0]
              have h2 : (X == 0) = false := by simpa using h0
              have h3' : (X != 0) = true := by simp [bne, h2]
              have HX0 := hide h0
              clear h0
              go_wp2
              go_ret
              exact ⟨by rw [NO.out E.out HX0.out]; rfl, g4⟩
end Go.Proofs.YtlmaobkfmplalaaDoor
