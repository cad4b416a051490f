/- In which order attributes stand makes no difference: the law, by the walk. -/
import Derived.Test.YtlmaobkfmplalaaDoorNRot
import Derived.Test.YtlmaobkfmplalaaDoorNTurn
namespace Go.Proofs.YtlmaobkfmplalaaDoor
open Go.RowKit

theorem turned_meet {w w1 w2 W3 w6 : World} {n : Nod} {ins : List ByteArray} {xs ys : List Atr} {cs : List Cont} {iv v' : Sl} {g avc k : Nat} {op nam out : ByteArray} (hcp : Copied w1 w2 n ins xs cs iv ⟨some ⟨g, 0, none⟩, xs.length, avc⟩ ys) (hn : NodeIn w1 n ins xs cs) (hk : k ≤ ys.length) (hg : w1.heap.size ≤ g ∧ g < w2.heap.size) (s3 : W3.heap.size = w2.heap.size + 1) (g3 : w2.grownBy W3 none)
    (hia : IsAttrs w6 v'.v (ys.drop k ++ ys.take k)) (hgrow : W3.drew.grownBy w6 (some g)) (hvb : ∀ b, v'.v.ownBlock = some b → b = g ∨ W3.drew.heap.size ≤ b)
    (q1 : (w6.setCell ⟨w2.heap.size, 4, none⟩ (.slice v'.a v'.n v'.c)).heap[w2.heap.size]? = some (.cells ((#[.string op, .string nam, .slice iv.a iv.n iv.c, .string out, .slice (some ⟨g, 0, none⟩) xs.length avc] : Array Value).setIfInBounds 4 (.slice v'.a v'.n v'.c)) 25 (0, 0)))
    (q2 : w6.grownBy (w6.setCell ⟨w2.heap.size, 4, none⟩ (.slice v'.a v'.n v'.c)) (some w2.heap.size)) (gw : w.grownBy w1 none) :
    ∃ v2 : Sl, (w6.setCell ⟨w2.heap.size, 4, none⟩ (.slice v'.a v'.n v'.c)).heap[w2.heap.size]? = some (.cells #[.string op, .string nam, .slice iv.a iv.n iv.c, .string out, .slice v2.a v2.n v2.c] 25 (0, 0)) ∧ NodeIn (w6.setCell ⟨w2.heap.size, 4, none⟩ (.slice v'.a v'.n v'.c)) ⟨op, nam, iv, out, v2⟩ ins (ys.drop k ++ ys.take k) (((ys.zip cs).drop k ++ (ys.zip cs).take k).map (·.2)) ∧ w.grownBy (w6.setCell ⟨w2.heap.size, 4, none⟩ (.slice v'.a v'.n v'.c)) none := by
  have sd : W3.drew.heap.size = W3.heap.size := rfl
  have s6 := hgrow.size
  have hyl := hcp.len
  have kp : ∀ b, b < w2.heap.size → b ≠ g → (w6.setCell ⟨w2.heap.size, 4, none⟩ (.slice v'.a v'.n v'.c)).heap[b]? = w2.heap[b]? := fun b hb hne =>
    (q2.block b (by omega) (fun e => by have := Option.some.inj e; omega)).trans ((hgrow.block b (by omega) (fun e => hne (Option.some.inj e))).trans (g3.block b hb (by simp)))
  have ap : ∀ {u : Value} {b : Nat}, (Sl.v ⟨some ⟨g, 0, none⟩, xs.length, avc⟩).ownBlock ≠ some b → b ≠ g := fun h e => h (by rw [e]; rfl)
  obtain ⟨-, -, -, -, -, hi3⟩ := hn.ins.form
  have hzip : ∀ (j : Nat) (p : Atr × Cont), (ys.zip cs)[j]? = some p → ys[j]? = some p.1 ∧ cs[j]? = some p.2 := by
    intro j p hp
    rw [List.getElem?_zip_eq_some] at hp
    exact hp
  have hzl : (ys.zip cs).length = ys.length := by
    rw [List.length_zip]
    have : ys.length ≤ cs.length := by
      rcases Nat.lt_or_ge cs.length ys.length with hlt | hge
      · obtain ⟨c, hc, -⟩ := hn.has cs.length (xs[cs.length]'(by omega)) (List.getElem?_eq_getElem _)
        rw [List.getElem?_eq_none (Nat.le_refl _)] at hc
        cases hc
      · exact hge
    omega
  refine ⟨v', by simpa using q1, ⟨?_, ?_, ?_, ?_, ?_⟩, ?_⟩
  · exact (hcp.ins.isL (bytes := 16) scell_len hi3).kept fun b hb e => kp b hb (ap (u := iv.v) (hcp.apt b e))
  · refine hia.kept fun b hb e => q2.block b hb (fun e2 => ?_)
    have h1 := Option.some.inj e2
    rcases hvb b e with h2 | h2 <;> omega
  · intro j a ha
    have hm : ((ys.zip cs).drop k ++ (ys.zip cs).take k).map (·.1) = ys.drop k ++ ys.take k := by
      rw [List.map_append, List.map_drop, List.map_take, List.map_fst_zip (by rw [List.length_zip] at hzl; omega)]
    rw [← hm, List.getElem?_map] at ha
    cases hp : ((ys.zip cs).drop k ++ (ys.zip cs).take k)[j]? with
    | none => rw [hp] at ha; cases ha
    | some p =>
      rw [hp] at ha
      obtain rfl : p.1 = a := by simpa using ha
      refine ⟨p.2, by rw [List.getElem?_map, hp]; rfl, ?_⟩
      have hmem : p ∈ ys.zip cs := by
        rcases List.mem_append.1 (List.mem_of_getElem? hp) with h | h
        · exact List.mem_of_mem_drop h
        · exact List.mem_of_mem_take h
      obtain ⟨i, hi⟩ := List.getElem?_of_mem hmem
      obtain ⟨h1, h2⟩ := hzip i p hi
      have hnw := hcp.new p.1 (List.mem_of_getElem? h1)
      exact (hcp.has i p.1 p.2 h1 h2).kept fun b hb e => kp b hb (ap (u := iv.v) (hnw.2.1.any e))
  · rw [List.length_append, List.length_drop, List.length_take]
    have := hn.few
    omega
  · intro a ha
    have hys := strip_s hcp.eq hn.short
    rcases List.mem_append.1 ha with h | h
    · exact hys a (List.mem_of_mem_drop h)
    · exact hys a (List.mem_of_mem_take h)
  · refine grown_trans_row (grown_trans_row (grown_trans (grown_trans gw hcp.grown) (grown_trans g3 (grown_drew (grown_refl W3)))) hgrow (fun r e => ?_)) q2 (fun r e => ?_)
    · have h : g = r := Option.some.inj e
      have := gw.size
      omega
    · cases e
      have := gw.size
      have := hcp.grown.size
      omega

theorem turned_ok {w1 w2 : World} {n : Nod} {ins : List ByteArray} {xs ys : List Atr} {cs : List Cont} {iv av : Sl} {k : Nat} {r : Option (Int × Int × List Ra)} {op out : ByteArray} (hcp : Copied w1 w2 n ins xs cs iv av ys) (hn : NodeIn w1 n ins xs cs) (h : checkF r op ins out xs cs = 0) :
    checkF r op ins out (ys.drop k ++ ys.take k) (((ys.zip cs).drop k ++ (ys.zip cs).take k).map (·.2)) = 0 := by
  have hyl := hcp.len
  have hcl : ys.length ≤ cs.length := by
    rcases Nat.lt_or_ge cs.length ys.length with hlt | hge
    · obtain ⟨c, hc, -⟩ := hn.has cs.length (xs[cs.length]'(by omega)) (List.getElem?_eq_getElem _)
      rw [List.getElem?_eq_none (Nat.le_refl _)] at hc
      cases hc
    · exact hge
  have h1 : (ys.zip cs).map (·.1) = ys := List.map_fst_zip hcl
  have h2 : checkF r op ins out ((ys.zip cs).map (·.1)) ((ys.zip cs).map (·.2)) = 0 := by
    rw [← checkF_strip hcp.eq] at h
    unfold checkF constE at h ⊢
    rw [zip_pairs, h1]
    exact h
  have h3 := checkF_turned (qs := (ys.zip cs).drop k ++ (ys.zip cs).take k) (by
    have := (List.perm_append_comm (l₁ := (ys.zip cs).take k) (l₂ := (ys.zip cs).drop k))
    rwa [List.take_append_drop] at this) h2
  have h4 : ((ys.zip cs).drop k ++ (ys.zip cs).take k).map (·.1) = ys.drop k ++ ys.take k := by
    rw [List.map_append, List.map_drop, List.map_take, h1]
  rwa [h4] at h3

set_option maxRecDepth 100000 in
set_option maxHeartbeats 6400000 in
theorem sturned_walk (n : Nod) (ins : List ByteArray) (xs : List Atr) (cs : List Cont) (which : Int) (w : World) (hl : Laid w) (hn : NodeIn w n ins xs cs) (hfew : xs.length ≤ 1048576) (hw1 : -9223372036854775808 ≤ which) (hw2 : which ≤ 9223372036854775807) :
    Calls Tryd.prog 6 #[nval n, .int .i64 which] w fun e w' => e = .returned (.bool true) ∧ Below w.heap.size w w' := by
  have HLA := hide hl
  have HN := hide hn
  have CH := hide (fun (wx : World) (hx : w.grownBy wx none) => check_in n ins xs cs wx (hl.more hx) (hn.more hx))
  have CN := hide (fun (wx : World) (hx : w.grownBy wx none) => copynode_any n ins xs cs wx (hn.ins.more hx) (hn.av.more hx) (hn.more hx).has hn.few)
  obtain ⟨ao', cap', hav, h1, h2, h3⟩ := hn.av.form
  obtain ⟨op, nam, ⟨ia, il, ic⟩, out, ⟨ao, al, cap⟩⟩ := n
  obtain ⟨rfl, rfl, rfl⟩ : ao = ao' ∧ al = xs.length ∧ cap = cap' := by simpa [Sl.v] using hav
  unfold nval at CH CN ⊢
  simp only at CH CN ⊢
  clear hl hn hav
  obtain ⟨w0, hw0⟩ : ∃ w0, w0 = w.alloc (.cells #[.string op, .string nam, .slice ia il ic, .string out, .slice ao xs.length cap] 25) := ⟨_, rfl⟩
  have g0 : w.grownBy w0 none := by rw [hw0]; exact grown_new _ _
  have hb0 := heap_alloc_new w (.cells #[.string op, .string nam, .slice ia il ic, .string out, .slice ao xs.length cap] 25)
  obtain ⟨n0, n1, n2, n3, n4⟩ := nod_cells (n := ⟨op, nam, ⟨ia, il, ic⟩, out, ⟨ao, xs.length, cap⟩⟩) hb0
  rw [← hw0] at hb0
  have BX : Hid (∀ wx, w0.grownBy wx none → wx.heap[w.heap.size]? = some (.cells #[.string op, .string nam, .slice ia il ic, .string out, .slice ao xs.length cap] 25 (0, 0))) := fun wx hg => box_kept hb0 hg
  clear hb0
  go_enter Tryd.func6, Tryd.ntmps6
  go_wp2_with fail
  rw [← hw0]
  clear hw0 n0 n1 n2 n3 n4
  refine (CH.out w0 g0).mono ?_
  rintro e w1 ⟨rfl, hg1⟩
  have g1 := grown_trans g0 hg1
  obtain ⟨X, hX⟩ : ∃ X, X = checkF (ruleF op) op ins out xs cs := ⟨_, rfl⟩
  have HX := hide hX
  rw [← hX]
  clear hX
  obtain ⟨n0, n1, n2, n3, n4⟩ := nod_cells (n := ⟨op, nam, ⟨ia, il, ic⟩, out, ⟨ao, xs.length, cap⟩⟩) (BX.out w1 hg1)
  by_cases hx : X = 0
  · subst hx
    by_cases hlen : xs.length = 0
    · have hz : ((xs.length : Int) == 0) = true := by simp [hlen]
      go_wp2_with fail
      refine (slive_any w1 (HLA.out.more g1)).mono ?_
      rintro e w2 ⟨rfl, hg2⟩
      go_wp2
      go_ret
      exact ⟨rfl, grown_below (grown_trans g1 hg2)⟩
    · have hz : ((xs.length : Int) == 0) = false := by simpa using hlen
      by_cases hx : which < 0
      · obtain ⟨K, hK⟩ : ∃ K : Nat, which + 1 = -(K : Int) := ⟨(-(which + 1)).toNat, by omega⟩
        obtain ⟨m, hm⟩ : ∃ m : Nat, m = ((K : Int) % (xs.length : Int)).toNat := ⟨_, rfl⟩
        have hr1 : 0 ≤ (K : Int) % (xs.length : Int) := Int.emod_nonneg _ (by omega)
        have hr2 : (K : Int) % (xs.length : Int) < (xs.length : Int) := Int.emod_lt_of_pos _ (by omega)
        have hmx : m < xs.length := by omega
        go_wp2_with fail
        refine (CN.out w1 g1).mono ?_
        rintro e w2 ⟨iv, av, ys, rfl, hcp⟩
        have HCP := hide hcp
        have hyl := hcp.len
        have HYL := hide hyl
        obtain ⟨g, cap2, hav2, hgb, hgl⟩ := World.ownsRow.form hcp.own (by omega)
        obtain ⟨ava, avn, avc⟩ := av
        obtain ⟨rfl, rfl, rfl⟩ : ava = some ⟨g, 0, none⟩ ∧ avn = xs.length ∧ avc = cap2 := by simpa [Sl.v, hyl] using hav2
        have HG := hide (And.intro hgb hgl)
        clear hav2 hgb hgl hyl
        obtain ⟨W3, hW3⟩ : ∃ W3, W3 = w2.alloc (.cells #[.string op, .string nam, .slice iv.a iv.n iv.c, .string out, .slice (some ⟨g, 0, none⟩) xs.length avc] 25) := ⟨_, rfl⟩
        have G3 : w2.grownBy W3 none := by rw [hW3]; exact grown_new _ _
        have bM := heap_alloc_new w2 (.cells #[.string op, .string nam, .slice iv.a iv.n iv.c, .string out, .slice (some ⟨g, 0, none⟩) xs.length avc] 25)
        rw [← hW3] at bM
        have S3 : Hid (W3.heap.size = w2.heap.size + 1) := by show _ = _; rw [hW3]; simp
        have BM := hide bM
        have g2 := grown_trans g1 hcp.grown
        have OW3 : Hid (OwnsL 45 9 acells W3.drew w1.heap.size (.slice (some ⟨g, 0, none⟩) ys.length avc) ys) := by
          have h := OwnsL.more hcp.own (grown_trans G3 (grown_drew (grown_refl W3)))
          simp only [Sl.v] at h
          rw [← HYL.out] at h
          exact h
        have hcapl : xs.length ≤ avc ∧ avc ≤ 9223372036854775807 := by
          rcases hcp.own.2 with ⟨h', _⟩ | ⟨g', cap', cur, h', hbb, hg, hnc, hcm, hcs, htake⟩
          · simp [Sl.v] at h'
          · simp only [Sl.v, Value.slice.injEq] at h'
            rw [HYL.out] at hnc
            simp only [maxLen] at hcm
            omega
        obtain ⟨hcap1, hcap2⟩ := hcapl
        clear bM hcp n0 n1 n2 n3 n4
        have n4' := (nod_cells (n := ⟨op, nam, ⟨ia, il, ic⟩, out, ⟨ao, xs.length, cap⟩⟩) (BX.out W3 (grown_trans (grown_trans hg1 HCP.out.grown) G3))).2.2.2.2
        rw [hW3] at n4'
        go_wp2_with fail
        rw [← hW3]
        clear hW3 n4'
        obtain ⟨m0, m1, m2, m3, m4⟩ := nod_cells (n := ⟨op, nam, iv, out, ⟨some ⟨g, 0, none⟩, xs.length, avc⟩⟩) BM.out
        go_cut [] from 29 to 38 (fun wx => ∃ v' : Sl, wx.heap[w2.heap.size]? = some (.cells #[.string op, .string nam, .slice iv.a iv.n iv.c, .string out, .slice v'.a v'.n v'.c] 25 (0, 0)) ∧ NodeIn wx ⟨op, nam, iv, out, v'⟩ ins (ys.drop m ++ ys.take m) (((ys.zip cs).drop m ++ (ys.zip cs).take m).map (·.2)) ∧ w.grownBy wx none)
        case first =>
          have hr3 : (K : Int) % (xs.length : Int) ≤ (xs.length : Int) := Int.le_of_lt hr2
          have hr4 : ¬ avc = ((K : Int) % (xs.length : Int)).toNat := by omega
          have hr5 : (K : Int) % (xs.length : Int) ≤ (avc : Int) := by omega
          go_region_law (refine step_rot (by rfl) (.tmp 32) (.tmp 36) (by rfl) w1.heap.size g avc ((K : Int) % (xs.length : Int)).toNat ys (by have := HYL.out; omega) (by exact OW3.out) (by rw [HYL.out]; rfl) (by rfl) (by have := HYL.out; omega) ?_; intro v' w6 hia hgrow hvb; have BM6 := hide ((hgrow.block w2.heap.size (by have := S3.out; show w2.heap.size < W3.heap.size; omega) (fun e => by have := HG.out.2; have h : w2.heap.size = g := Option.some.inj e; omega)).trans BM.out); obtain ⟨f0, f1, f2, f3, f4⟩ := nod_frozen BM6.out; obtain ⟨e0, e1, e2, e3, e4⟩ := nod_cells (n := ⟨op, nam, iv, out, ⟨some ⟨g, 0, none⟩, xs.length, avc⟩⟩) BM6.out)
          all_goals
            obtain ⟨q1, q2, q3⟩ := put1 (j := 4) (.slice v'.a v'.n v'.c) BM6.out
            have Q1 := hide q1
            have Q2 := hide q2
            clear q1 q2 q3
            go_wp2_with fail
            go_meet
            exact turned_meet (k := m) HCP.out (HN.out.more g1) (by have := HYL.out; omega) HG.out S3.out G3 (by rw [hm]; exact hia) hgrow hvb Q1.out Q2.out g1
        case rest =>
          obtain ⟨v', hbM, hni, hgx⟩ := hcut
          have HNI := hide hni
          have HGX := hide hgx
          have HBM := hide hbM
          clear hni hgx hbM m0 m1 m2 m3 m4
          obtain ⟨m0, m1, m2, m3, m4⟩ := nod_cells (n := ⟨op, nam, iv, out, v'⟩) HBM.out
          have E0 : Hid (checkF (ruleF op) op ins out (ys.drop m ++ ys.take m) (((ys.zip cs).drop m ++ (ys.zip cs).take m).map (·.2)) = 0) := turned_ok HCP.out (HN.out.more g1) (HX.out.symm)
          have CK := hide (check_in ⟨op, nam, iv, out, v'⟩ ins _ _ wc (HLA.out.more HGX.out) HNI.out)
          unfold nval at CK
          simp only at CK
          rw [E0.out] at CK
          go_wp2_with fail
          refine CK.out.mono ?_
          rintro e w7 ⟨rfl, hg7⟩
          go_wp2_with fail
          refine (slive_any w7 (HLA.out.more (grown_trans HGX.out hg7))).mono ?_
          rintro e w8 ⟨rfl, hg8⟩
          go_wp2
          go_ret
          exact ⟨rfl, grown_below (grown_trans (grown_trans HGX.out hg7) hg8)⟩
      · obtain ⟨K, rfl⟩ : ∃ K : Nat, which = (K : Int) := ⟨which.toNat, by omega⟩
        obtain ⟨m, hm⟩ : ∃ m : Nat, m = ((K : Int) % (xs.length : Int)).toNat := ⟨_, rfl⟩
        have hr1 : 0 ≤ (K : Int) % (xs.length : Int) := Int.emod_nonneg _ (by omega)
        have hr2 : (K : Int) % (xs.length : Int) < (xs.length : Int) := Int.emod_lt_of_pos _ (by omega)
        have hmx : m < xs.length := by omega
        go_wp2_with fail
        refine (CN.out w1 g1).mono ?_
        rintro e w2 ⟨iv, av, ys, rfl, hcp⟩
        have HCP := hide hcp
        have hyl := hcp.len
        have HYL := hide hyl
        obtain ⟨g, cap2, hav2, hgb, hgl⟩ := World.ownsRow.form hcp.own (by omega)
        obtain ⟨ava, avn, avc⟩ := av
        obtain ⟨rfl, rfl, rfl⟩ : ava = some ⟨g, 0, none⟩ ∧ avn = xs.length ∧ avc = cap2 := by simpa [Sl.v, hyl] using hav2
        have HG := hide (And.intro hgb hgl)
        clear hav2 hgb hgl hyl
        obtain ⟨W3, hW3⟩ : ∃ W3, W3 = w2.alloc (.cells #[.string op, .string nam, .slice iv.a iv.n iv.c, .string out, .slice (some ⟨g, 0, none⟩) xs.length avc] 25) := ⟨_, rfl⟩
        have G3 : w2.grownBy W3 none := by rw [hW3]; exact grown_new _ _
        have bM := heap_alloc_new w2 (.cells #[.string op, .string nam, .slice iv.a iv.n iv.c, .string out, .slice (some ⟨g, 0, none⟩) xs.length avc] 25)
        rw [← hW3] at bM
        have S3 : Hid (W3.heap.size = w2.heap.size + 1) := by show _ = _; rw [hW3]; simp
        have BM := hide bM
        have g2 := grown_trans g1 hcp.grown
        have OW3 : Hid (OwnsL 45 9 acells W3.drew w1.heap.size (.slice (some ⟨g, 0, none⟩) ys.length avc) ys) := by
          have h := OwnsL.more hcp.own (grown_trans G3 (grown_drew (grown_refl W3)))
          simp only [Sl.v] at h
          rw [← HYL.out] at h
          exact h
        have hcapl : xs.length ≤ avc ∧ avc ≤ 9223372036854775807 := by
          rcases hcp.own.2 with ⟨h', _⟩ | ⟨g', cap', cur, h', hbb, hg, hnc, hcm, hcs, htake⟩
          · simp [Sl.v] at h'
          · simp only [Sl.v, Value.slice.injEq] at h'
            rw [HYL.out] at hnc
            simp only [maxLen] at hcm
            omega
        obtain ⟨hcap1, hcap2⟩ := hcapl
        clear bM hcp n0 n1 n2 n3 n4
        have n4' := (nod_cells (n := ⟨op, nam, ⟨ia, il, ic⟩, out, ⟨ao, xs.length, cap⟩⟩) (BX.out W3 (grown_trans (grown_trans hg1 HCP.out.grown) G3))).2.2.2.2
        rw [hW3] at n4'
        go_wp2_with fail
        rw [← hW3]
        clear hW3 n4'
        obtain ⟨m0, m1, m2, m3, m4⟩ := nod_cells (n := ⟨op, nam, iv, out, ⟨some ⟨g, 0, none⟩, xs.length, avc⟩⟩) BM.out
        go_cut [] from 29 to 38 (fun wx => ∃ v' : Sl, wx.heap[w2.heap.size]? = some (.cells #[.string op, .string nam, .slice iv.a iv.n iv.c, .string out, .slice v'.a v'.n v'.c] 25 (0, 0)) ∧ NodeIn wx ⟨op, nam, iv, out, v'⟩ ins (ys.drop m ++ ys.take m) (((ys.zip cs).drop m ++ (ys.zip cs).take m).map (·.2)) ∧ w.grownBy wx none)
        case first =>
          have hr3 : (K : Int) % (xs.length : Int) ≤ (xs.length : Int) := Int.le_of_lt hr2
          have hr4 : ¬ avc = ((K : Int) % (xs.length : Int)).toNat := by omega
          have hr5 : (K : Int) % (xs.length : Int) ≤ (avc : Int) := by omega
          go_region_law (refine step_rot (by rfl) (.tmp 32) (.tmp 36) (by rfl) w1.heap.size g avc ((K : Int) % (xs.length : Int)).toNat ys (by have := HYL.out; omega) (by exact OW3.out) (by rw [HYL.out]; rfl) (by rfl) (by have := HYL.out; omega) ?_; intro v' w6 hia hgrow hvb; have BM6 := hide ((hgrow.block w2.heap.size (by have := S3.out; show w2.heap.size < W3.heap.size; omega) (fun e => by have := HG.out.2; have h : w2.heap.size = g := Option.some.inj e; omega)).trans BM.out); obtain ⟨f0, f1, f2, f3, f4⟩ := nod_frozen BM6.out; obtain ⟨e0, e1, e2, e3, e4⟩ := nod_cells (n := ⟨op, nam, iv, out, ⟨some ⟨g, 0, none⟩, xs.length, avc⟩⟩) BM6.out)
          all_goals
            obtain ⟨q1, q2, q3⟩ := put1 (j := 4) (.slice v'.a v'.n v'.c) BM6.out
            have Q1 := hide q1
            have Q2 := hide q2
            clear q1 q2 q3
            go_wp2_with fail
            go_meet
            exact turned_meet (k := m) HCP.out (HN.out.more g1) (by have := HYL.out; omega) HG.out S3.out G3 (by rw [hm]; exact hia) hgrow hvb Q1.out Q2.out g1
        case rest =>
          obtain ⟨v', hbM, hni, hgx⟩ := hcut
          have HNI := hide hni
          have HGX := hide hgx
          have HBM := hide hbM
          clear hni hgx hbM m0 m1 m2 m3 m4
          obtain ⟨m0, m1, m2, m3, m4⟩ := nod_cells (n := ⟨op, nam, iv, out, v'⟩) HBM.out
          have E0 : Hid (checkF (ruleF op) op ins out (ys.drop m ++ ys.take m) (((ys.zip cs).drop m ++ (ys.zip cs).take m).map (·.2)) = 0) := turned_ok HCP.out (HN.out.more g1) (HX.out.symm)
          have CK := hide (check_in ⟨op, nam, iv, out, v'⟩ ins _ _ wc (HLA.out.more HGX.out) HNI.out)
          unfold nval at CK
          simp only at CK
          rw [E0.out] at CK
          go_wp2_with fail
          refine CK.out.mono ?_
          rintro e w7 ⟨rfl, hg7⟩
          go_wp2_with fail
          refine (slive_any w7 (HLA.out.more (grown_trans HGX.out hg7))).mono ?_
          rintro e w8 ⟨rfl, hg8⟩
          go_wp2
          go_ret
          exact ⟨rfl, grown_below (grown_trans (grown_trans HGX.out hg7) hg8)⟩
  · have hz : (X != 0) = true := by simpa using hx
    go_wp2_with fail
    refine (slive_any w1 (HLA.out.more g1)).mono ?_
    rintro e w2 ⟨rfl, hg2⟩
    go_wp2
    go_ret
    exact ⟨rfl, grown_below (grown_trans g1 hg2)⟩
end Go.Proofs.YtlmaobkfmplalaaDoor
