/- Windows: at how many places a kernel stands, by the walk. -/
import Derived.Test.YteigfipgmghgmaaGreatDoorIDim5
namespace Go.Proofs.YteigfipgmghgmaaGreatDoor
open Go.RowKit

theorem getD_mem {l : List Int} {k : Nat} (hk : k < l.length) : l.getD k 0 ∈ l := by
  rw [List.getD, List.getElem?_eq_getElem hk]
  exact List.getElem_mem hk

/-- The places, once strides, dilations and pads are known. -/
def tailP (X Y T : Int) (along : Nat) (di pa : List Int) : R Int := (mustP (decide (0 ≤ X + pa.getD along 0 + pa.getD (2 + along) 0 - di.getD along 0 * (Y - 1) - 1))).bind (fun _ => .ok ((X + pa.getD along 0 + pa.getD (2 + along) 0 - di.getD along 0 * (Y - 1) - 1) / T + 1))

set_option maxRecDepth 100000 in
set_option maxHeartbeats 2000000 in
theorem places_any (n : Nod) (A : At) (u v : Sl) (x K : List Int) (along : Nat) (w : World) (hn : NodeOk w n A) (hx : IsInts w u.v x) (hK : IsInts w v.v K) (hlx : x.length = 4) (hlK : K.length = 2) (bx : ∀ z ∈ x, 1 ≤ z ∧ z ≤ 65536) (bK : ∀ z ∈ K, 1 ≤ z ∧ z ≤ 65536) (ha : along < 2) :
    Calls Tryz.prog 154 #[nval n, .slice u.a u.n u.c, .slice v.a v.n v.c, .int .i64 along] w (Ended w (placesP A x K along) fun z v _ => v = .int .i64 z ∧ 1 ≤ z ∧ z ≤ 1000000) := by
  obtain ⟨ux, uc, eu, c1, c2, c3⟩ := hx.sl
  obtain ⟨ua, un, uu⟩ := u
  simp only [Sl.v, Value.slice.injEq] at eu
  obtain ⟨rfl, rfl, rfl⟩ := eu
  obtain ⟨vx, vc, ev, d1, d2, d3⟩ := hK.sl
  obtain ⟨va, vn, vv⟩ := v
  simp only [Sl.v, Value.slice.injEq] at ev
  obtain ⟨rfl, rfl, rfl⟩ := ev
  obtain ⟨xb, xo, rfl, hcx⟩ := hx.get (k := 0) (by omega)
  obtain ⟨kb, ko, rfl, hck⟩ := hK.get (k := 0) (by omega)
  have XC := hide (hcx (2 + along) (by omega))
  have KC := hide (hck along (by omega))
  have BX := bx _ (getD_mem (l := x) (k := 2 + along) (by omega))
  have BK := bK _ (getD_mem (l := K) (k := along) (by omega))
  rw [hlx, hlK]
  rw [hlx] at c1
  rw [hlK] at d1
  have E0 : Hid (placesP A x K along = (withinP (A.ints ⟨#[115, 116, 114, 105, 100, 101, 115]⟩ [1, 1]) 2 1).bind (fun st => (withinP (A.ints ⟨#[100, 105, 108, 97, 116, 105, 111, 110, 115]⟩ [1, 1]) 2 1).bind (fun di => (padsP A).bind (fun pa => tailP (x.getD (2 + along) 0) (K.getD along 0) (st.getD along 0) along di pa)))) := rfl
  obtain ⟨X, hX⟩ : ∃ X, X = x.getD (2 + along) 0 := ⟨_, rfl⟩
  obtain ⟨Y, hY⟩ : ∃ Y, Y = K.getD along 0 := ⟨_, rfl⟩
  rw [← hX] at XC E0 BX
  rw [← hY] at KC E0 BK
  clear hx hK hcx hck bx bK hlx hlK hX hY c3 d3
  have NK := hide hn
  obtain ⟨op, nam, ⟨ia, il, ic⟩, out, ⟨ao, al, cap⟩⟩ := n
  unfold nval
  simp only
  obtain ⟨w0, hw0⟩ : ∃ w0, w0 = w.alloc (.cells #[.string op, .string nam, .slice ia il ic, .string out, .slice ao al cap] 25) := ⟨_, rfl⟩
  have g0 : Hid (w.grownBy w0 none) := by show w.grownBy w0 none; rw [hw0]; exact grown_new _ _
  have hb0 := heap_alloc_new w (.cells #[.string op, .string nam, .slice ia il ic, .string out, .slice ao al cap] 25)
  rw [← hw0] at hb0
  have BX : Hid (∀ wx, w0.grownBy wx none → wx.heap[w.heap.size]? = some (.cells #[.string op, .string nam, .slice ia il ic, .string out, .slice ao al cap] 25 (0, 0))) := fun wx hg => box_kept hb0 hg
  clear hb0 hn
  have ST := hide (astrides_any ⟨op, nam, ⟨ia, il, ic⟩, out, ⟨ao, al, cap⟩⟩ A w0 (NK.out.more g0.out))
  have DI := hide (fun (wx : World) (hg : w.grownBy wx none) => dilations_any ⟨op, nam, ⟨ia, il, ic⟩, out, ⟨ao, al, cap⟩⟩ A wx (NK.out.more hg))
  have PA := hide (fun (wx : World) (hg : w.grownBy wx none) => padsof_any ⟨op, nam, ⟨ia, il, ic⟩, out, ⟨ao, al, cap⟩⟩ A wx (NK.out.more hg))
  unfold nval at ST DI PA
  simp only at ST DI PA
  go_enter Tryz.func154, Tryz.ntmps154
  go_wp2_with fail
  rw [← hw0]
  clear hw0
  refine ST.out.mono ?_
  rintro e w1 ⟨s, rfl, hs, hg1⟩
  have G1 := hide hg1
  have WS := hide (within_any s _ 2 1 w1 hs (by decide))
  have HS := hide hs
  clear hs hg1 ST
  cases hk : withinP (A.ints ⟨#[115, 116, 114, 105, 100, 101, 115]⟩ [1, 1]) 2 1 with
  | error c =>
    rw [hk] at WS
    have E : Hid (placesP A x K along = .error c) := by show _ = _; rw [E0.out, hk]; rfl
    clear hk
    go_wp2_with (first | (go_at_call 155; refine WS.out.mono ?_; rintro e w' ⟨hg, rfl⟩) | fail)
    exact ⟨rfl, ended_err E.out (grown_trans g0.out (grown_trans G1.out hg))⟩
  | ok st =>
    rw [hk] at WS E0
    obtain ⟨e1, stl, stb⟩ := withinP_ok hk
    have BST := hide (stb _ (getD_mem (l := st) (k := along) (by omega)))
    rw [← e1] at HS
    have SC : Hid (∀ wx, w1.grownBy wx none → ∃ b off, s.a = some ⟨b, off, none⟩ ∧ wx.cell? ⟨b, off + along, none⟩ = some (.int .i64 (st.getD along 0))) := fun wx hg => by
      obtain ⟨s1, s2, s3⟩ := s
      obtain ⟨b, off, e, hc⟩ := HS.out.get (k := along) (by omega)
      exact ⟨b, off, e, cell_still (hc along (by omega)) hg⟩
    have SL : s.n = 2 := by
      obtain ⟨a', c', e, -⟩ := HS.out.sl
      have : s.n = st.length := by simp only [Sl.v, Value.slice.injEq] at e; exact e.2.1
      rw [this, stl]
    obtain ⟨b, off, esa, hsc⟩ := SC.out w1 (grown_refl _)
    obtain ⟨sa, sn, sc⟩ := s
    simp only at esa SL
    subst esa SL
    simp only [Sl.v] at WS ⊢
    have E1 : Hid (placesP A x K along = (withinP (A.ints ⟨#[100, 105, 108, 97, 116, 105, 111, 110, 115]⟩ [1, 1]) 2 1).bind (fun di => (padsP A).bind (fun pa => tailP X Y (st.getD along 0) along di pa))) := E0.out
    obtain ⟨T, hT⟩ : ∃ T, T = st.getD along 0 := ⟨_, rfl⟩
    rw [← hT] at hsc E1 BST
    have ha2 : (along : Int) < 2 := by omega
    obtain ⟨n0, n1, n2, n3, n4⟩ := nod_cells (n := ⟨op, nam, ⟨ia, il, ic⟩, out, ⟨ao, al, cap⟩⟩) (BX.out w1 (G1.out))
    clear hk e1 stl stb hT SC E0 HS
    go_wp2_with (first | (go_at_call 155; refine WS.out.mono ?_; rintro e w' ⟨-, v, rfl, rfl, -, rfl⟩) | fail)
    clear hsc WS
    refine (DI.out w1 (grown_trans g0.out G1.out)).mono ?_
    rintro e w2 ⟨s, rfl, hs, hg2⟩
    have G2 := hide (grown_trans G1.out hg2)
    have WD := hide (within_any s _ 2 1 w2 hs (by decide))
    have HS := hide hs
    clear hs hg2 DI n0 n1 n2 n3 n4
    cases hk : withinP (A.ints ⟨#[100, 105, 108, 97, 116, 105, 111, 110, 115]⟩ [1, 1]) 2 1 with
    | error c =>
      rw [hk] at WD
      have E : Hid (placesP A x K along = .error c) := by show _ = _; rw [E1.out, hk]; rfl
      clear hk
      go_wp2_with (first | (go_at_call 155; refine WD.out.mono ?_; rintro e w' ⟨hg, rfl⟩) | fail)
      exact ⟨rfl, ended_err E.out (grown_trans g0.out (grown_trans G2.out hg))⟩
    | ok di =>
      rw [hk] at WD E1
      obtain ⟨e1, dil, dib⟩ := withinP_ok hk
      have BDI := hide (dib _ (getD_mem (l := di) (k := along) (by omega)))
      rw [← e1] at HS
      have SL : s.n = 2 := by
        obtain ⟨a', c', e, -⟩ := HS.out.sl
        have : s.n = di.length := by simp only [Sl.v, Value.slice.injEq] at e; exact e.2.1
        rw [this, dil]
      obtain ⟨sa, sn, sc'⟩ := s
      obtain ⟨b2, off2, esa, hc2⟩ := HS.out.get (k := along) (by omega)
      simp only at esa SL
      subst esa SL
      have hsc := hc2 along (by omega)
      simp only [Sl.v] at WD ⊢
      have E2 : Hid (placesP A x K along = (padsP A).bind (fun pa => tailP X Y T along di pa)) := E1.out
      obtain ⟨D, hD⟩ : ∃ D, D = di.getD along 0 := ⟨_, rfl⟩
      rw [← hD] at hsc BDI
      have HDX := hide hD
      obtain ⟨n0, n1, n2, n3, n4⟩ := nod_cells (n := ⟨op, nam, ⟨ia, il, ic⟩, out, ⟨ao, al, cap⟩⟩) (BX.out w2 (G2.out))
      clear hk e1 dil dib hD E1 HS hc2
      go_wp2_with (first | (go_at_call 155; refine WD.out.mono ?_; rintro e w' ⟨-, v, rfl, rfl, -, rfl⟩) | fail)
      clear hsc WD
      have P3 := hide (PA.out w2 (grown_trans g0.out G2.out))
      clear PA n0 n1 n2 n3 n4
      cases hk : padsP A with
      | error c =>
        rw [hk] at P3
        have E : Hid (placesP A x K along = .error c) := by show _ = _; rw [E2.out, hk]; rfl
        clear hk
        refine P3.out.mono ?_
        rintro e w' ⟨hg, rfl⟩
        exact ⟨rfl, ended_err E.out (grown_trans g0.out (grown_trans G2.out hg))⟩
      | ok pa =>
        rw [hk] at P3 E2
        have E3 : Hid (placesP A x K along = tailP X Y T along di pa) := E2.out
        clear hk E2
        refine P3.out.mono ?_
        rintro e w3 ⟨hg3, v, rfl, ⟨pa1, pn, pc⟩, rfl, hp, hpl, hpb⟩
        have G3 := hide (grown_trans g0.out (grown_trans G2.out hg3))
        obtain ⟨pb, po, epa, hpc⟩ := hp.get (k := 0) (by omega)
        have SL : pn = 4 := by
          obtain ⟨a', c', e, -⟩ := hp.sl
          cases e
          exact hpl
        subst epa SL
        have p1 := hpc along (by omega)
        have p2 := hpc (2 + along) (by omega)
        have q1 := hpb _ (getD_mem (l := pa) (k := along) (by omega))
        have q2 := hpb _ (getD_mem (l := pa) (k := 2 + along) (by omega))
        have xc := cell_still XC.out G3.out
        have kc := cell_still KC.out G3.out
        have pcb : 4 ≤ pc ∧ pc ≤ 9223372036854775807 := by
          obtain ⟨a', c', e, f1, f2, -⟩ := hp.sl
          simp only [Sl.v, Value.slice.injEq] at e
          rw [hpl] at f1
          rw [e.2.2]
          exact ⟨f1, f2⟩
        obtain ⟨pc1, pc2⟩ := pcb
        have E4 : Hid (placesP A x K along = (mustP (decide (0 ≤ X + pa.getD along 0 + pa.getD (2 + along) 0 - D * (Y - 1) - 1))).bind (fun _ => .ok ((X + pa.getD along 0 + pa.getD (2 + along) 0 - D * (Y - 1) - 1) / T + 1))) := by show _ = _; rw [E3.out, HDX.out]; rfl
        obtain ⟨M, hM⟩ : ∃ M, M = D * (Y - 1) := ⟨_, rfl⟩
        have bd := BDI.out
        have bt := BST.out
        have m1 : 0 ≤ M := by rw [hM]; exact Int.mul_nonneg (by omega) (by omega)
        have m2 : M ≤ 100 * 65536 := by rw [hM]; exact Int.mul_le_mul (by omega) (by omega) (by omega) (by omega)
        obtain ⟨U, hU⟩ : ∃ U, U = pa.getD along 0 := ⟨_, rfl⟩
        obtain ⟨V, hV⟩ : ∃ V, V = pa.getD (2 + along) 0 := ⟨_, rfl⟩
        rw [← hM, ← hU, ← hV] at E4
        rw [← hU] at p1 q1
        rw [← hV] at p2 q2
        have hM' : D * (Y - 1) = M := hM.symm
        clear hM hU hV hp hpl hpb hpc E3 P3 HDX hg3
        obtain ⟨N, hN0⟩ : ∃ N, N = X + U + V - M - 1 := ⟨_, rfl⟩
        rw [← hN0] at E4
        have hN1 : X + U + V - M - 1 = N := hN0.symm
        have bN : N ≤ 200000 := by omega
        clear hN0
        rcases (show along = 0 ∨ along = 1 by omega) with rfl | rfl
        · skip
          simp only [Sl.v, Nat.add_zero, Int.natCast_zero] at *
          have hN : 0 ≤ N → N / T + 1 ≤ 1000000 ∧ 1 ≤ N / T + 1 := fun h => by
            have h1 : N / T ≤ N := Int.ediv_le_self _ h
            have h2 : 0 ≤ N / T := Int.ediv_nonneg h (by omega)
            omega
          have hdv : 0 ≤ N → N.tdiv T = N / T := fun h => Int.tdiv_eq_ediv_of_nonneg h
          have ht0 : ¬ T = 0 := by omega
          have wz2 : IntKind.i64.wrap 2 = 2 := by decide
          have wz3 : IntKind.i64.wrap 3 = 3 := by decide
          have cN : Hid (0 ≤ N → 1 ≤ N / T + 1 ∧ N / T + 1 ≤ 1000000) := fun h => ⟨(hN h).2, (hN h).1⟩
          go_wp2_with fail
          go_quiet (fail)
          clear xc kc p1 p2 wz2 wz3
          by_cases h0 : 0 ≤ N
          · have E5 : Hid (placesP A x K 0 = .ok (N / T + 1)) := by show _ = _; rw [E4.out]; simp [mustP, h0]; rfl
            have hdv' := hdv h0
            have hb := hN h0
            clear hN hdv
            go_wp2_with (first | (go_at_call 71; refine (must_yes _).mono ?_; rintro e w' ⟨rfl, rfl⟩) | fail)
            go_ret
            exact ended_ok E5.out (grown_drewQ G3.out _) ⟨rfl, cN.out h0⟩
          · have E5 : Hid (placesP A x K 0 = .error 4) := by show _ = _; rw [E4.out]; simp [mustP, h0]; rfl
            have hd0 : decide (0 ≤ N) = false := by simpa using h0
            clear hN hdv
            go_wp2_with (first | (go_at_call 71; refine (must_no _).mono ?_; rintro e w' ⟨rfl, rfl⟩) | fail)
            exact ⟨rfl, ended_err E5.out (grown_drewQ G3.out _)⟩
        · skip
          simp only [Sl.v, Nat.reduceAdd, Int.natCast_one] at *
          have hN : 0 ≤ N → N / T + 1 ≤ 1000000 ∧ 1 ≤ N / T + 1 := fun h => by
            have h1 : N / T ≤ N := Int.ediv_le_self _ h
            have h2 : 0 ≤ N / T := Int.ediv_nonneg h (by omega)
            omega
          have hdv : 0 ≤ N → N.tdiv T = N / T := fun h => Int.tdiv_eq_ediv_of_nonneg h
          have ht0 : ¬ T = 0 := by omega
          have wz2 : IntKind.i64.wrap 2 = 2 := by decide
          have wz3 : IntKind.i64.wrap 3 = 3 := by decide
          have cN : Hid (0 ≤ N → 1 ≤ N / T + 1 ∧ N / T + 1 ≤ 1000000) := fun h => ⟨(hN h).2, (hN h).1⟩
          go_wp2_with fail
          go_quiet (fail)
          clear xc kc p1 p2 wz2 wz3
          by_cases h0 : 0 ≤ N
          · have E5 : Hid (placesP A x K 1 = .ok (N / T + 1)) := by show _ = _; rw [E4.out]; simp [mustP, h0]; rfl
            have hdv' := hdv h0
            have hb := hN h0
            clear hN hdv
            go_wp2_with (first | (go_at_call 71; refine (must_yes _).mono ?_; rintro e w' ⟨rfl, rfl⟩) | fail)
            go_ret
            exact ended_ok E5.out (grown_drewQ G3.out _) ⟨rfl, cN.out h0⟩
          · have E5 : Hid (placesP A x K 1 = .error 4) := by show _ = _; rw [E4.out]; simp [mustP, h0]; rfl
            have hd0 : decide (0 ≤ N) = false := by simpa using h0
            clear hN hdv
            go_wp2_with (first | (go_at_call 71; refine (must_no _).mono ?_; rintro e w' ⟨rfl, rfl⟩) | fail)
            exact ⟨rfl, ended_err E5.out (grown_drewQ G3.out _)⟩
end Go.Proofs.YteigfipgmghgmaaGreatDoor
