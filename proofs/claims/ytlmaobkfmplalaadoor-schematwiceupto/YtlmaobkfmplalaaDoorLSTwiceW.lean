/- A node with one attribute twice: the law, by the walk. -/
import Derived.Test.YtlmaobkfmplalaaDoorNNode
namespace Go.Proofs.YtlmaobkfmplalaaDoor
open Go.RowKit

theorem twice_meet {w w1 w2 W3 w6 : World} {o : Obj} {n : Nod} {ins : List ByteArray} {xs ys : List Atr} {cs : List Cont} {iv : Sl} {g avc g' cap' m : Nat} {A : Atr} {C : Cont} {op nam out : ByteArray} (hcp : Copied w1 w2 n ins xs cs iv ⟨some ⟨g, 0, none⟩, xs.length, avc⟩ ys) (hn : NodeIn w1 n ins xs cs) (hyl : ys.length = xs.length) (hA : ys[m]? = some A) (hC : cs[m]? = some C) (hg : w1.heap.size ≤ g ∧ g < w2.heap.size) (s3 : W3.heap.size = w2.heap.size + 1) (g3 : w2.grownBy W3 none)
    (hgrow : (W3.alloc o).drew.grownBy w6 (Value.ownBlock (.slice (some ⟨g, 0, none⟩) xs.length avc))) (hown : w6.ownsRow w1.heap.size 45 9 (.slice (some ⟨g', 0, none⟩) (xs.length + 1) cap') (xs.length + 1) (ys.flatMap acells ++ acells A))
    (q1 : (w6.setCell ⟨w2.heap.size, 4, none⟩ (.slice (some ⟨g', 0, none⟩) (xs.length + 1) cap')).heap[w2.heap.size]? = some (.cells ((#[.string op, .string nam, .slice iv.a iv.n iv.c, .string out, .slice (some ⟨g, 0, none⟩) xs.length avc] : Array Value).setIfInBounds 4 (.slice (some ⟨g', 0, none⟩) (xs.length + 1) cap')) 25 (0, 0)))
    (q2 : w6.grownBy (w6.setCell ⟨w2.heap.size, 4, none⟩ (.slice (some ⟨g', 0, none⟩) (xs.length + 1) cap')) (some w2.heap.size)) (hfew : xs.length ≤ 1048576) (gw : w.grownBy w1 none) (hat : Value.ownBlock (.slice (some ⟨g, 0, none⟩) xs.length avc) = some g' ∨ g' = W3.heap.size + 1) (hlt : g' < w6.heap.size) :
    ∃ v' : Sl, (w6.setCell ⟨w2.heap.size, 4, none⟩ (.slice (some ⟨g', 0, none⟩) (xs.length + 1) cap')).heap[w2.heap.size]? = some (.cells #[.string op, .string nam, .slice iv.a iv.n iv.c, .string out, .slice v'.a v'.n v'.c] 25 (0, 0)) ∧ NodeIn (w6.setCell ⟨w2.heap.size, 4, none⟩ (.slice (some ⟨g', 0, none⟩) (xs.length + 1) cap')) ⟨op, nam, iv, out, v'⟩ ins (ys ++ [A]) (cs.take ys.length ++ [C]) ∧ w.grownBy (w6.setCell ⟨w2.heap.size, 4, none⟩ (.slice (some ⟨g', 0, none⟩) (xs.length + 1) cap')) none := by
  have ga : W3.grownBy (W3.alloc o).drew none := grown_drew (grown_new W3 o)
  have sa : (W3.alloc o).drew.heap.size = W3.heap.size + 1 := by simp
  have s6 := hgrow.size
  have kp : ∀ b, b < w2.heap.size → Value.ownBlock (.slice (some ⟨g, 0, none⟩) xs.length avc) ≠ some b → (w6.setCell ⟨w2.heap.size, 4, none⟩ (.slice (some ⟨g', 0, none⟩) (xs.length + 1) cap')).heap[b]? = w2.heap[b]? := fun b hb hne =>
    (q2.block b (by omega) (fun e => by have := Option.some.inj e; omega)).trans ((hgrow.block b (by omega) (fun e => hne e.symm)).trans ((ga.block b (by omega) (by simp)).trans (g3.block b hb (by simp))))
  refine ⟨⟨some ⟨g', 0, none⟩, xs.length + 1, cap'⟩, by simpa using q1, ?_, ?_⟩
  · refine hcp.pushed hn kp ?_ (by intro e he; rw [List.mem_singleton] at he; subst he; exact List.mem_of_getElem? hA) ?_ (by rw [List.length_append, hyl]; simp only [List.length_singleton]; omega)
    · have o1 : OwnsL 45 9 acells w6 w1.heap.size (.slice (some ⟨g', 0, none⟩) (xs.length + 1) cap') (ys ++ [A]) := by
        unfold OwnsL
        rw [List.length_append, List.flatMap_append, hyl]
        simpa using hown
      have o2 : OwnsL 45 9 acells (w6.setCell ⟨w2.heap.size, 4, none⟩ (.slice (some ⟨g', 0, none⟩) (xs.length + 1) cap')) w1.heap.size (.slice (some ⟨g', 0, none⟩) (xs.length + 1) cap') (ys ++ [A]) := owns_block o1 (fun b e => by
        have h : g' = b := Option.some.inj e
        subst h
        refine q2.block g' hlt (fun e2 => ?_)
        have h2 : g' = w2.heap.size := Option.some.inj e2
        rcases hat with h3 | h3
        · have h4 : g = g' := Option.some.inj h3
          omega
        · omega)
      exact o2.isL (bytes := 136) acells_len (by rw [List.length_append, hyl]; simp only [List.length_singleton]; omega)
    · intro j a ha
      obtain ⟨rfl, rfl⟩ : j = 0 ∧ a = A := by
        cases j with
        | zero => exact ⟨rfl, by simpa using ha.symm⟩
        | succ j => simp at ha
      exact ⟨m, C, rfl, hA, hC⟩
  · refine grown_trans_row (grown_trans_row (grown_trans (grown_trans gw hcp.grown) (grown_trans g3 ga)) hgrow (fun r e => ?_)) q2 (fun r e => ?_)
    · have h : g = r := Option.some.inj e
      have := gw.size
      omega
    · cases e
      have := gw.size
      have := hcp.grown.size
      omega

set_option maxRecDepth 100000 in
set_option maxHeartbeats 6400000 in
theorem stwice_walk (n : Nod) (ins : List ByteArray) (xs : List Atr) (cs : List Cont) (which : Int) (w : World) (hl : Laid w) (hn : NodeIn w n ins xs cs) (hfew : xs.length ≤ 1048576) (hw1 : -9223372036854775808 ≤ which) (hw2 : which ≤ 9223372036854775807) :
    Calls Tryd.prog 7 #[nval n, .int .i64 which] w fun e w' => e = .returned (.bool true) ∧ Below w.heap.size w w' := by
  have HLA := hide hl
  have HN := hide hn
  have CH := hide (fun (wx : World) (hx : w.grownBy wx none) => check_in n ins xs cs wx (hl.more hx) (hn.more hx))
  have CN := hide (fun (wx : World) (hx : w.grownBy wx none) => copynode_any n ins xs cs wx (hn.ins.more hx) (hn.av.more hx) (hn.more hx).has hn.few)
  obtain ⟨ao', cap', hav, h1, h2, h3⟩ := hn.av.form
  obtain ⟨op, nam, ⟨ia, il, ic⟩, out, ⟨ao, al, cap⟩⟩ := n
  obtain ⟨rfl, rfl, rfl⟩ : ao = ao' ∧ al = xs.length ∧ cap = cap' := by simpa [Sl.v] using hav
  unfold nval at CH CN ⊢
  simp only at CH CN ⊢
  clear hl hn hav
  obtain ⟨w0, hw0⟩ : ∃ w0, w0 = w.alloc (.cells #[.string op, .string nam, .slice ia il ic, .string out, .slice ao xs.length cap] 25) := ⟨_, rfl⟩
  have g0 : w.grownBy w0 none := by rw [hw0]; exact grown_new _ _
  have hb0 := heap_alloc_new w (.cells #[.string op, .string nam, .slice ia il ic, .string out, .slice ao xs.length cap] 25)
  obtain ⟨n0, n1, n2, n3, n4⟩ := nod_cells (n := ⟨op, nam, ⟨ia, il, ic⟩, out, ⟨ao, xs.length, cap⟩⟩) hb0
  rw [← hw0] at hb0
  have BX : Hid (∀ wx, w0.grownBy wx none → wx.heap[w.heap.size]? = some (.cells #[.string op, .string nam, .slice ia il ic, .string out, .slice ao xs.length cap] 25 (0, 0))) := fun wx hg => box_kept hb0 hg
  clear hb0
  go_enter Tryd.func7, Tryd.ntmps7
  go_wp2_with fail
  rw [← hw0]
  clear hw0 n0 n1 n2 n3 n4
  refine (CH.out w0 g0).mono ?_
  rintro e w1 ⟨rfl, hg1⟩
  have g1 := grown_trans g0 hg1
  obtain ⟨X, hX⟩ : ∃ X, X = checkF (ruleF op) op ins out xs cs := ⟨_, rfl⟩
  have HX := hide hX
  rw [← hX]
  clear hX
  obtain ⟨n0, n1, n2, n3, n4⟩ := nod_cells (n := ⟨op, nam, ⟨ia, il, ic⟩, out, ⟨ao, xs.length, cap⟩⟩) (BX.out w1 hg1)
  by_cases hx : X = 0
  · subst hx
    by_cases hlen : xs.length = 0
    · have hz : ((xs.length : Int) == 0) = true := by simp [hlen]
      go_wp2_with fail
      refine (slive_any w1 (HLA.out.more g1)).mono ?_
      rintro e w2 ⟨rfl, hg2⟩
      go_wp2
      go_ret
      exact ⟨rfl, grown_below (grown_trans g1 hg2)⟩
    · have hz : ((xs.length : Int) == 0) = false := by simpa using hlen
      by_cases hx : which < 0
      · obtain ⟨K, hK⟩ : ∃ K : Nat, which + 1 = -(K : Int) := ⟨(-(which + 1)).toNat, by omega⟩
        obtain ⟨m, hm⟩ : ∃ m : Nat, m = ((K : Int).tmod (xs.length : Int)).toNat := ⟨_, rfl⟩
        have hr1 : 0 ≤ (K : Int).tmod (xs.length : Int) := Int.tmod_nonneg _ (by omega)
        have hr2 : (K : Int).tmod (xs.length : Int) < (xs.length : Int) := Int.tmod_lt_of_pos _ (by omega)
        have hmx : m < xs.length := by omega
        go_wp2_with fail
        refine (CN.out w1 g1).mono ?_
        rintro e w2 ⟨iv, av, ys, rfl, hcp⟩
        have HCP := hide hcp
        have hyl := hcp.len
        have HYL := hide hyl
        obtain ⟨g, cap2, hav2, hgb, hgl⟩ := World.ownsRow.form hcp.own (by omega)
        obtain ⟨ava, avn, avc⟩ := av
        obtain ⟨rfl, rfl, rfl⟩ : ava = some ⟨g, 0, none⟩ ∧ avn = xs.length ∧ avc = cap2 := by simpa [Sl.v, hyl] using hav2
        have HG := hide (And.intro hgb hgl)
        clear hav2 hgb hgl hyl
        obtain ⟨W3, hW3⟩ : ∃ W3, W3 = w2.alloc (.cells #[.string op, .string nam, .slice iv.a iv.n iv.c, .string out, .slice (some ⟨g, 0, none⟩) xs.length avc] 25) := ⟨_, rfl⟩
        have G3 : w2.grownBy W3 none := by rw [hW3]; exact grown_new _ _
        have bM := heap_alloc_new w2 (.cells #[.string op, .string nam, .slice iv.a iv.n iv.c, .string out, .slice (some ⟨g, 0, none⟩) xs.length avc] 25)
        rw [← hW3] at bM
        have S3 : Hid (W3.heap.size = w2.heap.size + 1) := by show _ = _; rw [hW3]; simp
        have BM := hide bM
        have g2 := grown_trans g1 hcp.grown
        have OW3 : Hid (∀ o, (W3.alloc o).ownsRow w1.heap.size 45 9 (.slice (some ⟨g, 0, none⟩) xs.length avc) xs.length (ys.flatMap acells)) := fun o => World.ownsRow.alloc (by have := OwnsL.more hcp.own G3; unfold OwnsL at this; rw [HYL.out] at this; exact this) o
        have IA3 : IsAttrs W3 (.slice (some ⟨g, 0, none⟩) xs.length avc) ys := (hcp.own.more G3).isL (bytes := 136) acells_len (by have := HYL.out; omega)
        obtain ⟨a0, a1, a2, a3, a4, a5, a6, a7, a8⟩ := IA3.attr m (by have := HYL.out; omega)
        simp only [Nat.zero_add] at a0 a1 a2 a3 a4 a5 a6 a7 a8
        have YM : Hid (ys[m]? = some (ys[m]'(by have := HYL.out; omega))) := List.getElem?_eq_getElem _
        obtain ⟨A, hA⟩ : ∃ A, A = ys[m]'(by have := HYL.out; omega) := ⟨_, rfl⟩
        rw [← hA] at a0 a1 a2 a3 a4 a5 a6 a7 a8 YM
        clear hA IA3 bM hcp n0 n1 n2 n3 n4
        obtain ⟨-, -, -, -, n4⟩ := nod_cells (n := ⟨op, nam, ⟨ia, il, ic⟩, out, ⟨ao, xs.length, cap⟩⟩) (BX.out W3 (grown_trans (grown_trans hg1 HCP.out.grown) G3))
        obtain ⟨m0, m1, m2, m3, m4⟩ := nod_cells (n := ⟨op, nam, iv, out, ⟨some ⟨g, 0, none⟩, xs.length, avc⟩⟩) BM.out
        go_wp2_with fail
        rw [← hW3]
        clear hW3
        obtain ⟨i1, hj, jz0, jz1, jz2⟩ := info_parts infoAttr
        rw [hm] at a0 a1 a2 a3 a4 a5 a6 a7 a8
        clear hm
        obtain ⟨C, hC, -⟩ := HN.out.has m (xs[m]'hmx) (List.getElem?_eq_getElem hmx)
        have HC := hide hC
        clear hC
        go_cut [] from 23 to 36 (fun wx => ∃ v' : Sl, wx.heap[w2.heap.size]? = some (.cells #[.string op, .string nam, .slice iv.a iv.n iv.c, .string out, .slice v'.a v'.n v'.c] 25 (0, 0)) ∧ NodeIn wx ⟨op, nam, iv, out, v'⟩ ins (ys ++ [A]) (cs.take ys.length ++ [C]) ∧ w.grownBy wx none)
        case first =>
          have m4a := cell_still m4 (grown_new W3 (.cells #[.string A.name, .int .i64 A.kind, .int .i64 A.f, .int .i64 A.i, .string A.s, .int .i64 A.ty, .slice A.dv.a A.dv.n A.dv.c, .slice A.tv.a A.tv.n A.tv.c, .slice A.iv.a A.iv.n A.iv.c] 45))
          have GA : Hid (∀ o, W3.grownBy (W3.alloc o).drew none) := fun o => grown_drew (grown_new W3 o)
          go_region_law (refine step_append_lies _ (by rfl) (.tmp 24) (.tmp 34) 23 (by rfl) w1.heap.size 45 i1 (.agg #[.string ⟨#[]⟩, .int .i64 0, .int .i64 0, .int .i64 0, .string ⟨#[]⟩, .int .i64 0, .slice none 0 0, .slice none 0 0, .slice none 0 0]) 9 136 Tryd.underlying23 hj jz0 jz1 jz2 (by rfl) (by decide) (.slice (some ⟨g, 0, none⟩) xs.length avc) xs.length (ys.flatMap acells) (by rfl) (by exact OW3.out _) ⟨W3.heap.size, 0, none⟩ 1 1 (acells A) (by rfl) (by rfl) (by exact World.news_of_block (heap_alloc_new W3 _)) (acell_one _) (by omega) (by simp only [maxLen]; omega) (by omega) (by have := S3.out; have := HCP.out.grown.size; simp; omega) (W3.heap.size + 1) (by simp) ?_; intro g' cap' w6 hown' hgrow hat hlt6; have BM6 := hide ((hgrow.block w2.heap.size (by have := S3.out; simp; omega) (fun e => by have := HG.out.2; have h : w2.heap.size = g := Option.some.inj e; omega)).trans (box_kept (w := W3) BM.out (GA.out _))); obtain ⟨f0, f1, f2, f3, f4⟩ := nod_frozen BM6.out; obtain ⟨e0, e1, e2, e3, e4⟩ := nod_cells (n := ⟨op, nam, iv, out, ⟨some ⟨g, 0, none⟩, xs.length, avc⟩⟩) BM6.out)
          all_goals
            obtain ⟨q1, q2, q3⟩ := put1 (j := 4) (.slice (some ⟨g', 0, none⟩) (xs.length + 1) cap') BM6.out
            have Q1 := hide q1
            have Q2 := hide q2
            clear q1 q2 q3
            go_wp2_with fail
            go_meet
            exact twice_meet HCP.out (HN.out.more g1) HYL.out YM.out HC.out HG.out S3.out G3 hgrow hown' Q1.out Q2.out hfew g1 hat hlt6
        case rest =>
          obtain ⟨v', hbM, hni, hgx⟩ := hcut
          have HNI := hide hni
          have HGX := hide hgx
          have HBM := hide hbM
          clear hni hgx hbM m0 m1 m2 m3 m4 a0 a1 a2 a3 a4 a5 a6 a7 a8 n4
          obtain ⟨m0, m1, m2, m3, m4⟩ := nod_cells (n := ⟨op, nam, iv, out, v'⟩) HBM.out
          have E4 : Hid (checkF (ruleF op) op ins out (ys ++ [A]) (cs.take ys.length ++ [C]) = 4) := checkE_twice (cs := cs) (by rw [checkF_strip HCP.out.eq]; exact HX.out.symm) (List.mem_of_getElem? YM.out)
          have CK := hide (check_in ⟨op, nam, iv, out, v'⟩ ins _ _ wc (HLA.out.more HGX.out) HNI.out)
          unfold nval at CK
          simp only at CK
          go_wp2_with fail
          refine CK.out.mono ?_
          rintro e w7 ⟨rfl, hg7⟩
          rw [E4.out]
          go_wp2_with fail
          refine (slive_any w7 (HLA.out.more (grown_trans HGX.out hg7))).mono ?_
          rintro e w8 ⟨rfl, hg8⟩
          go_wp2
          go_ret
          exact ⟨rfl, grown_below (grown_trans (grown_trans HGX.out hg7) hg8)⟩
      · obtain ⟨K, rfl⟩ : ∃ K : Nat, which = (K : Int) := ⟨which.toNat, by omega⟩
        obtain ⟨m, hm⟩ : ∃ m : Nat, m = ((K : Int).tmod (xs.length : Int)).toNat := ⟨_, rfl⟩
        have hr1 : 0 ≤ (K : Int).tmod (xs.length : Int) := Int.tmod_nonneg _ (by omega)
        have hr2 : (K : Int).tmod (xs.length : Int) < (xs.length : Int) := Int.tmod_lt_of_pos _ (by omega)
        have hmx : m < xs.length := by omega
        go_wp2_with fail
        refine (CN.out w1 g1).mono ?_
        rintro e w2 ⟨iv, av, ys, rfl, hcp⟩
        have HCP := hide hcp
        have hyl := hcp.len
        have HYL := hide hyl
        obtain ⟨g, cap2, hav2, hgb, hgl⟩ := World.ownsRow.form hcp.own (by omega)
        obtain ⟨ava, avn, avc⟩ := av
        obtain ⟨rfl, rfl, rfl⟩ : ava = some ⟨g, 0, none⟩ ∧ avn = xs.length ∧ avc = cap2 := by simpa [Sl.v, hyl] using hav2
        have HG := hide (And.intro hgb hgl)
        clear hav2 hgb hgl hyl
        obtain ⟨W3, hW3⟩ : ∃ W3, W3 = w2.alloc (.cells #[.string op, .string nam, .slice iv.a iv.n iv.c, .string out, .slice (some ⟨g, 0, none⟩) xs.length avc] 25) := ⟨_, rfl⟩
        have G3 : w2.grownBy W3 none := by rw [hW3]; exact grown_new _ _
        have bM := heap_alloc_new w2 (.cells #[.string op, .string nam, .slice iv.a iv.n iv.c, .string out, .slice (some ⟨g, 0, none⟩) xs.length avc] 25)
        rw [← hW3] at bM
        have S3 : Hid (W3.heap.size = w2.heap.size + 1) := by show _ = _; rw [hW3]; simp
        have BM := hide bM
        have g2 := grown_trans g1 hcp.grown
        have OW3 : Hid (∀ o, (W3.alloc o).ownsRow w1.heap.size 45 9 (.slice (some ⟨g, 0, none⟩) xs.length avc) xs.length (ys.flatMap acells)) := fun o => World.ownsRow.alloc (by have := OwnsL.more hcp.own G3; unfold OwnsL at this; rw [HYL.out] at this; exact this) o
        have IA3 : IsAttrs W3 (.slice (some ⟨g, 0, none⟩) xs.length avc) ys := (hcp.own.more G3).isL (bytes := 136) acells_len (by have := HYL.out; omega)
        obtain ⟨a0, a1, a2, a3, a4, a5, a6, a7, a8⟩ := IA3.attr m (by have := HYL.out; omega)
        simp only [Nat.zero_add] at a0 a1 a2 a3 a4 a5 a6 a7 a8
        have YM : Hid (ys[m]? = some (ys[m]'(by have := HYL.out; omega))) := List.getElem?_eq_getElem _
        obtain ⟨A, hA⟩ : ∃ A, A = ys[m]'(by have := HYL.out; omega) := ⟨_, rfl⟩
        rw [← hA] at a0 a1 a2 a3 a4 a5 a6 a7 a8 YM
        clear hA IA3 bM hcp n0 n1 n2 n3 n4
        obtain ⟨-, -, -, -, n4⟩ := nod_cells (n := ⟨op, nam, ⟨ia, il, ic⟩, out, ⟨ao, xs.length, cap⟩⟩) (BX.out W3 (grown_trans (grown_trans hg1 HCP.out.grown) G3))
        obtain ⟨m0, m1, m2, m3, m4⟩ := nod_cells (n := ⟨op, nam, iv, out, ⟨some ⟨g, 0, none⟩, xs.length, avc⟩⟩) BM.out
        go_wp2_with fail
        rw [← hW3]
        clear hW3
        obtain ⟨i1, hj, jz0, jz1, jz2⟩ := info_parts infoAttr
        rw [hm] at a0 a1 a2 a3 a4 a5 a6 a7 a8
        clear hm
        obtain ⟨C, hC, -⟩ := HN.out.has m (xs[m]'hmx) (List.getElem?_eq_getElem hmx)
        have HC := hide hC
        clear hC
        go_cut [] from 23 to 36 (fun wx => ∃ v' : Sl, wx.heap[w2.heap.size]? = some (.cells #[.string op, .string nam, .slice iv.a iv.n iv.c, .string out, .slice v'.a v'.n v'.c] 25 (0, 0)) ∧ NodeIn wx ⟨op, nam, iv, out, v'⟩ ins (ys ++ [A]) (cs.take ys.length ++ [C]) ∧ w.grownBy wx none)
        case first =>
          have m4a := cell_still m4 (grown_new W3 (.cells #[.string A.name, .int .i64 A.kind, .int .i64 A.f, .int .i64 A.i, .string A.s, .int .i64 A.ty, .slice A.dv.a A.dv.n A.dv.c, .slice A.tv.a A.tv.n A.tv.c, .slice A.iv.a A.iv.n A.iv.c] 45))
          have GA : Hid (∀ o, W3.grownBy (W3.alloc o).drew none) := fun o => grown_drew (grown_new W3 o)
          go_region_law (refine step_append_lies _ (by rfl) (.tmp 24) (.tmp 34) 23 (by rfl) w1.heap.size 45 i1 (.agg #[.string ⟨#[]⟩, .int .i64 0, .int .i64 0, .int .i64 0, .string ⟨#[]⟩, .int .i64 0, .slice none 0 0, .slice none 0 0, .slice none 0 0]) 9 136 Tryd.underlying23 hj jz0 jz1 jz2 (by rfl) (by decide) (.slice (some ⟨g, 0, none⟩) xs.length avc) xs.length (ys.flatMap acells) (by rfl) (by exact OW3.out _) ⟨W3.heap.size, 0, none⟩ 1 1 (acells A) (by rfl) (by rfl) (by exact World.news_of_block (heap_alloc_new W3 _)) (acell_one _) (by omega) (by simp only [maxLen]; omega) (by omega) (by have := S3.out; have := HCP.out.grown.size; simp; omega) (W3.heap.size + 1) (by simp) ?_; intro g' cap' w6 hown' hgrow hat hlt6; have BM6 := hide ((hgrow.block w2.heap.size (by have := S3.out; simp; omega) (fun e => by have := HG.out.2; have h : w2.heap.size = g := Option.some.inj e; omega)).trans (box_kept (w := W3) BM.out (GA.out _))); obtain ⟨f0, f1, f2, f3, f4⟩ := nod_frozen BM6.out; obtain ⟨e0, e1, e2, e3, e4⟩ := nod_cells (n := ⟨op, nam, iv, out, ⟨some ⟨g, 0, none⟩, xs.length, avc⟩⟩) BM6.out)
          all_goals
            obtain ⟨q1, q2, q3⟩ := put1 (j := 4) (.slice (some ⟨g', 0, none⟩) (xs.length + 1) cap') BM6.out
            have Q1 := hide q1
            have Q2 := hide q2
            clear q1 q2 q3
            go_wp2_with fail
            go_meet
            exact twice_meet HCP.out (HN.out.more g1) HYL.out YM.out HC.out HG.out S3.out G3 hgrow hown' Q1.out Q2.out hfew g1 hat hlt6
        case rest =>
          obtain ⟨v', hbM, hni, hgx⟩ := hcut
          have HNI := hide hni
          have HGX := hide hgx
          have HBM := hide hbM
          clear hni hgx hbM m0 m1 m2 m3 m4 a0 a1 a2 a3 a4 a5 a6 a7 a8 n4
          obtain ⟨m0, m1, m2, m3, m4⟩ := nod_cells (n := ⟨op, nam, iv, out, v'⟩) HBM.out
          have E4 : Hid (checkF (ruleF op) op ins out (ys ++ [A]) (cs.take ys.length ++ [C]) = 4) := checkE_twice (cs := cs) (by rw [checkF_strip HCP.out.eq]; exact HX.out.symm) (List.mem_of_getElem? YM.out)
          have CK := hide (check_in ⟨op, nam, iv, out, v'⟩ ins _ _ wc (HLA.out.more HGX.out) HNI.out)
          unfold nval at CK
          simp only at CK
          go_wp2_with fail
          refine CK.out.mono ?_
          rintro e w7 ⟨rfl, hg7⟩
          rw [E4.out]
          go_wp2_with fail
          refine (slive_any w7 (HLA.out.more (grown_trans HGX.out hg7))).mono ?_
          rintro e w8 ⟨rfl, hg8⟩
          go_wp2
          go_ret
          exact ⟨rfl, grown_below (grown_trans (grown_trans HGX.out hg7) hg8)⟩
  · have hz : (X != 0) = true := by simpa using hx
    go_wp2_with fail
    refine (slive_any w1 (HLA.out.more g1)).mono ?_
    rintro e w2 ⟨rfl, hg2⟩
    go_wp2
    go_ret
    exact ⟨rfl, grown_below (grown_trans g1 hg2)⟩
end Go.Proofs.YtlmaobkfmplalaaDoor
