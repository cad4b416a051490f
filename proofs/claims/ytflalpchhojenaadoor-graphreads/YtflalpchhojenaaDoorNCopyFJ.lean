/- A node of its own, of any size (out of NCopyN.lean), and nodes that come in, of any size. -/
import Derived.Test.YtflalpchhojenaaDoorNSameNJ
namespace Go.Proofs.YtflalpchhojenaaDoor
open Go.RowKit

/-- A node that comes in, of any size. -/
structure NodeIn0 (w : World) (n : Nod) (ins : List ByteArray) (xs : List Atr) (cs : List Cont) : Prop where
  ins : IsStrs w n.iv.v ins
  av : IsAttrs w n.av.v xs
  has : ∀ (j : Nat) (a : Atr), xs[j]? = some a → ∃ c, cs[j]? = some c ∧ Has w a c

theorem NodeIn0.more {w w' : World} {n : Nod} {ins : List ByteArray} {xs : List Atr} {cs : List Cont} (h : NodeIn0 w n ins xs cs) (hg : w.grownBy w' none) : NodeIn0 w' n ins xs cs :=
  ⟨h.ins.more hg, h.av.more hg, fun j a e => by obtain ⟨c, e1, e2⟩ := h.has j a e; exact ⟨c, e1, e2.more hg⟩⟩

theorem NodeIn0.kept {w w' : World} {n : Nod} {ins : List ByteArray} {xs : List Atr} {cs : List Cont} (h : NodeIn0 w n ins xs cs) (kp : ∀ b, b < w.heap.size → w'.heap[b]? = w.heap[b]?) : NodeIn0 w' n ins xs cs :=
  ⟨h.ins.kept fun b hb _ => kp b hb, h.av.kept fun b hb _ => kp b hb, fun j a e => by obtain ⟨c, e1, e2⟩ := h.has j a e; exact ⟨c, e1, e2.kept fun b hb _ => kp b hb⟩⟩

/-- The copy, as a node that comes in. -/
theorem Copied.node0 {w w' : World} {n : Nod} {ins : List ByteArray} {xs ys : List Atr} {cs : List Cont} {iv av : Sl} {op nam out : ByteArray} (h : Copied w w' n ins xs cs iv av ys) (hn : NodeIn0 w n ins xs cs) : NodeIn0 w' ⟨op, nam, iv, out, av⟩ ins ys cs := by
  obtain ⟨-, -, -, -, -, hi3⟩ := hn.ins.form
  obtain ⟨-, -, -, -, -, ha3⟩ := hn.av.form
  refine ⟨h.ins.isL (bytes := 16) scell_len hi3, h.own.isL (bytes := 136) acells_len (by rw [h.len]; exact ha3), ?_⟩
  intro j a ha
  have hj : j < xs.length := by rw [← h.len]; exact (List.getElem?_eq_some_iff.1 ha).1
  obtain ⟨c, hc, -⟩ := hn.has j xs[j] (List.getElem?_eq_getElem hj)
  exact ⟨c, hc, h.has j a c ha hc⟩

set_option maxRecDepth 100000 in
set_option maxHeartbeats 6400000 in
theorem copynode_full (n : Nod) (ins : List ByteArray) (xs : List Atr) (cs : List Cont) (w : World) (hin : IsStrs w n.iv.v ins) (hv : IsAttrs w n.av.v xs) (hc : ∀ (j : Nat) (a : Atr), xs[j]? = some a → ∃ c, cs[j]? = some c ∧ Has w a c) :
    Calls Tryd.prog 26 #[nval n] w fun e w' => ∃ (iv av : Sl) (ys : List Atr), e = .returned (nval ⟨n.op, n.name, iv, n.out, av⟩) ∧ Copied w w' n ins xs cs iv av ys := by
  obtain ⟨i0, hi, hz0, hz1, hz2⟩ := info_parts infoStr
  obtain ⟨i1, hj, jz0, jz1, jz2⟩ := info_parts infoAttr
  obtain ⟨i2, hm, mz0, mz1, mz2⟩ := info_parts infoI64
  obtain ⟨op, nam, ⟨ia, il, ic⟩, out, ⟨ao, al, cap⟩⟩ := n
  simp only at hin hv ⊢
  obtain ⟨ao', cap', hav, h1, h2, h3⟩ := hv.form
  obtain ⟨rfl, rfl, rfl⟩ : ao = ao' ∧ al = xs.length ∧ cap = cap' := by simpa [Sl.v] using hav
  have HV := hide hv
  have HI := hide hin
  have HC := hide hc
  clear hv hav hin hc
  unfold nval
  simp only
  obtain ⟨w0, hw0⟩ : ∃ w0, w0 = ((w.alloc (.cells #[.string op, .string nam, .slice ia il ic, .string out, .slice ao xs.length cap] 42)).alloc (.cells #[.string ⟨#[]⟩, .string ⟨#[]⟩, .slice none 0 0, .string ⟨#[]⟩, .slice none 0 0] 42)).alloc (.cells #[.string op, .string nam, .slice none 0 0, .string out, .slice none 0 0] 42) := ⟨_, rfl⟩
  have g0 : w.grownBy w0 none := by rw [hw0]; exact grown_trans (grown_trans (grown_new _ _) (grown_new _ _)) (grown_new _ _)
  have hbx := two_boxes w (.cells #[.string op, .string nam, .slice ia il ic, .string out, .slice ao xs.length cap] 42) (.cells #[.string ⟨#[]⟩, .string ⟨#[]⟩, .slice none 0 0, .string ⟨#[]⟩, .slice none 0 0] 42)
  have b1 := box_kept hbx.1 (grown_new _ (.cells #[.string op, .string nam, .slice none 0 0, .string out, .slice none 0 0] 42))
  have b2 := box_kept hbx.2 (grown_new _ (.cells #[.string op, .string nam, .slice none 0 0, .string out, .slice none 0 0] 42))
  have b3 := heap_alloc_new ((w.alloc (.cells #[.string op, .string nam, .slice ia il ic, .string out, .slice ao xs.length cap] 42)).alloc (.cells #[.string ⟨#[]⟩, .string ⟨#[]⟩, .slice none 0 0, .string ⟨#[]⟩, .slice none 0 0] 42)) (.cells #[.string op, .string nam, .slice none 0 0, .string out, .slice none 0 0] 42)
  rw [← hw0] at b1 b2 b3
  rw [show ((w.alloc (.cells #[.string op, .string nam, .slice ia il ic, .string out, .slice ao xs.length cap] 42)).alloc (.cells #[.string ⟨#[]⟩, .string ⟨#[]⟩, .slice none 0 0, .string ⟨#[]⟩, .slice none 0 0] 42)).heap.size = w.heap.size + 1 + 1 by simp] at b3
  have S0 : Hid (w0.heap.size = w.heap.size + 1 + 1 + 1) := by show _ = _; rw [hw0]; simp
  have B1 := hide b1
  have B2 := hide b2
  have B3 := hide b3
  obtain ⟨n0, n1, n2, n3, n4⟩ := nod_cells (n := ⟨op, nam, ⟨ia, il, ic⟩, out, ⟨ao, xs.length, cap⟩⟩) b1
  obtain ⟨m0, m1, m2, m3, m4⟩ := nod_cells (n := ⟨op, nam, ⟨none, 0, 0⟩, out, ⟨none, 0, 0⟩⟩) b3
  rw [hw0] at n0 n1 n2 n3 n4 m0 m1 m2 m3 m4
  clear hbx b1 b2 b3
  have HI0 := hide (HI.out.more g0)
  have y1 : w.heap.size ≠ w.heap.size + 1 + 1 := by omega
  go_enter Tryd.func26, Tryd.ntmps26
  go_wp2_with (at_builtin; refine wpl_fresh rfl (.tmp 14) (.tmp 16) 39 9 1 16 (.string ⟨#[]⟩) i0 scell rfl Tryd.underlying39 hi hz0 hz1 hz2 rfl (by decide) rfl _ ins rfl (by rw [← hw0]; exact HI0.out) (fun _ => rfl) (by intro y u hu; rw [scell, List.mem_singleton] at hu; subst hu; rfl) ?_; intro v' w1 hown hgrow; rw [← hw0] at hown hgrow; have HO := hide hown; obtain ⟨xa, xc, rfl⟩ := OwnsL.form hown; clear hown n0 n1 n2 n3 n4 m0 m1 m2 m3 m4; have B3' := hide (box_kept B3.out hgrow); obtain ⟨f0, f1, f2, f3, f4⟩ := nod_frozen B3'.out; obtain ⟨m0, m1, m2, m3, m4⟩ := nod_cells (n := ⟨op, nam, ⟨none, 0, 0⟩, out, ⟨none, 0, 0⟩⟩) B3'.out)
  obtain ⟨W2, hW2⟩ : ∃ W2, W2 = w1.setCell ⟨w.heap.size + 1 + 1, 2, none⟩ (.slice xa ins.length xc) := ⟨_, rfl⟩
  rw [← hW2]
  obtain ⟨P1, P2, P3⟩ := put1 (j := 2) (.slice xa ins.length xc) B3'.out
  rw [← hW2] at P1 P2 P3
  have g1 : w.grownBy W2 none := grown_trans_row (grown_trans g0 hgrow) P2 (fun r e => by cases e; omega)
  have INV : Hid (CInv W2 (w.heap.size + 1 + 1) W2.heap.size op nam out ⟨xa, ins.length, xc⟩ xs cs 0 W2 ⟨none, 0, 0⟩ []) := ⟨P1, OwnsL.nil .., rfl, rfl, (by intro j a c h; simp at h), (by intro a h; simp at h), World.grownBy.refl _ _⟩
  have S2 : Hid (w.heap.size + 1 + 1 < W2.heap.size ∧ w0.heap.size ≤ w1.heap.size ∧ W2.heap.size = w1.heap.size) := ⟨by have := S0.out; have := hgrow.size; omega, hgrow.size, P3⟩
  have HOW : Hid (OwnsL 9 1 scell W2 w0.heap.size (.slice xa ins.length xc) ins) := HO.out.kept P2 (by intro g e; cases e; have := S0.out; omega)
  have C1 : Hid (W2.heap[w.heap.size]? = some (.cells #[.string op, .string nam, .slice ia il ic, .string out, .slice ao xs.length cap] 42 (0, 0))) := (P2.block _ (by have := (Array.getElem?_eq_some_iff.1 B1.out).1; have := hgrow.size; omega) (fun e => y1 (Option.some.inj e))).trans (box_kept B1.out hgrow)
  have C2 : Hid (W2.heap[w.heap.size + 1]? = some (.cells #[.string ⟨#[]⟩, .string ⟨#[]⟩, .slice none 0 0, .string ⟨#[]⟩, .slice none 0 0] 42 (0, 0))) := (P2.block _ (by have := (Array.getElem?_eq_some_iff.1 B2.out).1; have := hgrow.size; omega) (fun e => by have := Option.some.inj e; omega)).trans (box_kept B2.out hgrow)
  clear P1 P2 P3 hW2 B1 B2 B3 B3' HO f0 f1 f2 f3 f4 m0 m1 m2 m3 m4 hgrow HI0 hw0 g0
  go_loopw [4] (fun i wr => ∃ (k : Nat) (v : Sl) (ys : List Atr), k ≤ xs.length ∧ i = .int .i64 k ∧ CInv W2 (w.heap.size + 1 + 1) W2.heap.size op nam out ⟨xa, ins.length, xc⟩ xs cs k wr v ys) (fun i _ => xs.length - (intOf i).toNat)
  case atStart => exact ⟨0, _, [], Nat.zero_le _, rfl, INV.out⟩
  case round =>
    obtain ⟨k, v, ys, hk, rfl, hinv⟩ := hrel
    have CI := hide hinv
    have D1 : Hid (∀ {wx : World}, W2.grownBy wx (some (w.heap.size + 1 + 1)) → wx.heap[w.heap.size]? = some (.cells #[.string op, .string nam, .slice ia il ic, .string out, .slice ao xs.length cap] 42 (0, 0))) := fun hg => (hg.block _ (Array.getElem?_eq_some_iff.1 C1.out).1 (fun e => y1 (Option.some.inj e))).trans C1.out
    obtain ⟨-, -, -, -, n4⟩ := nod_cells (n := ⟨op, nam, ⟨ia, il, ic⟩, out, ⟨ao, xs.length, cap⟩⟩) (D1.out hinv.grown)
    have KW : Hid (∀ b, b < w.heap.size → wr.heap[b]? = w.heap[b]?) := fun b hb => (hinv.grown.block b (by have := g1.size; omega) (fun e => by have := Option.some.inj e; omega)).trans (g1.block b hb (by simp))
    clear hinv
    by_cases hlt : k < xs.length
    · have HVr : IsL 136 9 acells wr (.slice ao xs.length cap) xs := HV.out.kept fun b hb _ => KW.out b hb
      obtain ⟨b, off, rfl⟩ := HVr.addr hlt
      obtain ⟨a0, a1, a2, a3, a4, a5, a6, a7, a8⟩ := HVr.attr k hlt
      obtain ⟨c, hcc, hhas⟩ := HC.out k xs[k] (List.getElem?_eq_getElem hlt)
      have HH : Hid (Has wr xs[k] c) := hhas.kept fun b hb _ => KW.out b hb
      have HCC := hide hcc
      clear HVr hcc hhas
      obtain ⟨A, hA⟩ : ∃ A, A = xs[k] := ⟨_, rfl⟩
      have HA := hide hA
      rw [← hA] at a0 a1 a2 a3 a4 a5 a6 a7 a8 HH
      clear hA
      obtain ⟨W3, hW3⟩ : ∃ W3, W3 = wr.alloc (.cells #[.string A.name, .int .i64 A.kind, .int .i64 A.f, .int .i64 A.i, .string A.s, .int .i64 A.ty, .slice A.dv.a A.dv.n A.dv.c, .slice A.tv.a A.tv.n A.tv.c, .slice A.iv.a A.iv.n A.iv.c] 80) := ⟨_, rfl⟩
      have G3 : wr.grownBy W3 none := by rw [hW3]; exact grown_new _ _
      have bA := heap_alloc_new wr (.cells #[.string A.name, .int .i64 A.kind, .int .i64 A.f, .int .i64 A.i, .string A.s, .int .i64 A.ty, .slice A.dv.a A.dv.n A.dv.c, .slice A.tv.a A.tv.n A.tv.c, .slice A.iv.a A.iv.n A.iv.c] 80)
      rw [← hW3] at bA
      have BA := hide bA
      have S3 : Hid (W3.heap.size = wr.heap.size + 1) := by show _ = _; rw [hW3]; simp
      have n4' := cell_still n4 G3
      have a5' := cell_still a5 G3
      have a6' := cell_still a6 G3
      have a7' := cell_still a7 G3
      have CT := hide (copyten_any A.ty A.dv.v A.tv.v c.d c.t W3 (HH.out.d.more G3) (HH.out.t.more G3))
      rw [hW3] at n4' a5' a6' a7'
      clear bA
      go_wp2_with fail
      rw [← hW3]
      clear hW3 n4' a5' a6' a7'
      refine CT.out.mono ?_
      rintro e w4 ⟨d, t, rfl, hd4, ht4, nd4, nt4, hg4⟩
      have BA4 := hide (box_kept BA.out hg4)
      have HD4 := hide hd4
      have HT4 := hide ht4
      have ND4 := hide nd4
      have NT4 := hide nt4
      clear hd4 ht4 nd4 nt4
      obtain ⟨f0, f1, f2, f3, f4, f5, f6, f7, f8⟩ := atr_frozen BA4.out
      obtain ⟨k0, k1, k2, k3, k4, k5, k6, k7, k8⟩ := atr_cells (a := A) BA4.out
      go_wp2_with fail
      obtain ⟨W5, hW5⟩ : ∃ W5, W5 = (((w4.setCell ⟨wr.heap.size, 5, none⟩ (.int .i64 A.ty)).setCell ⟨wr.heap.size, 6, none⟩ (.slice d.a d.n d.c)).setCell ⟨wr.heap.size, 7, none⟩ (.slice t.a t.n t.c)).setCell ⟨wr.heap.size, 8, none⟩ (.slice none 0 0) := ⟨_, rfl⟩
      rw [← hW5]
      obtain ⟨p1, p2, p3⟩ := store4a (.int .i64 A.ty) (.slice d.a d.n d.c) (.slice t.a t.n t.c) (.slice none 0 0) BA4.out
      rw [← hW5] at p1 p2 p3
      clear hW5 f0 f1 f2 f3 f4 f5 f6 f7 f8 k0 k1 k2 k3 k4 k5 k6 k7 k8
      have BA5 := hide p1
      have G45 := hide p2
      have S5 : Hid (W5.heap.size = w4.heap.size ∧ wr.heap.size < W5.heap.size) := ⟨p3, by have := hg4.size; have := S3.out; omega⟩
      have KO : Hid (∀ b, b < wr.heap.size → W5.heap[b]? = wr.heap[b]?) := fun b hb => (p2.block b (by have := hg4.size; have := S3.out; omega) (fun e => by have := Option.some.inj e; omega)).trans ((hg4.block b (by have := S3.out; omega) (by simp)).trans (G3.block b hb (by simp)))
      clear p1 p2 p3
      have n45 : W5.cell? ⟨w.heap.size, 4, none⟩ = some (.slice (some ⟨b, off, none⟩) xs.length cap) := (World.cell?_of_block (KO.out _ (World.block_lt_of_cell? wr _ n4))).trans n4
      have a85 : W5.cell? ⟨b, off + k * 9 + 8, none⟩ = some (.slice A.iv.a A.iv.n A.iv.c) := (World.cell?_of_block (KO.out _ (World.block_lt_of_cell? wr _ a8))).trans a8
      go_cut [] from 19 to 55 (fun wx => ∃ i' : Sl, wx.heap[wr.heap.size]? = some (.cells #[.string A.name, .int .i64 A.kind, .int .i64 A.f, .int .i64 A.i, .string A.s, .int .i64 A.ty, .slice d.a d.n d.c, .slice t.a t.n t.c, .slice i'.a i'.n i'.c] 80 (0, 0)) ∧ IsInts wx i'.v c.i ∧ New W5.heap.size wx.heap.size i'.v ∧ W5.grownBy wx (some wr.heap.size))
      case first =>
        obtain ⟨-, -, -, -, -, -, -, -, k8⟩ := atr_cells (a := ⟨A.name, A.kind, A.f, A.i, A.s, A.ty, d, t, ⟨none, 0, 0⟩⟩) BA5.out
        have HL := hide (isL_ints ((HH.out.i.kept (w' := W5) (fun b hb _ => KO.out b hb)).more (grown_drew (grown_refl W5))))
        go_region_law (refine step_fresh (by rfl) (.tmp 41) (.tmp 47) 47 2 1 8 (.int .i64 0) i2 icell (by rfl) Tryd.underlying47 hm mz0 mz1 mz2 (by rfl) (by decide) (by rfl) _ c.i (by rfl) (by exact HL.out) icell_len icell_one ?_; intro v' w6 hown hgrow; have HO6 := hide hown; obtain ⟨za, zc, rfl⟩ := OwnsL.form hown; have BA6 := hide (box_kept (w := W5.drew) BA5.out hgrow); obtain ⟨f0, f1, f2, f3, f4, f5, f6, f7, f8⟩ := atr_frozen BA6.out; obtain ⟨-, -, -, -, -, -, -, -, k86⟩ := atr_cells (a := ⟨A.name, A.kind, A.f, A.i, A.s, A.ty, d, t, ⟨none, 0, 0⟩⟩) BA6.out)
        all_goals
          go_wp2_with fail
          go_meet
          obtain ⟨q1, q2, q3⟩ := put1 (j := 8) (.slice za c.i.length zc) BA6.out
          have n6 := owns_new HO6.out
          refine ⟨⟨za, c.i.length, zc⟩, by simpa using q1, (ints_owns HO6.out HH.out.i.le HH.out.i.wf).past n6 (Or.inl S5.out.2) q2, n6.mono (Nat.le_refl _) (Nat.le_of_eq q3.symm), ?_⟩
          exact grown_none_row (grown_trans (grown_drew (grown_refl W5)) hgrow) q2
      case rest =>
        obtain ⟨i', hb7, hi7, ni7, hg7⟩ := hcut
        have BA7 := hide hb7
        have HI7 := hide hi7
        have NI7 := hide ni7
        clear hb7 hi7 ni7 n45 a85
        have K7 : Hid (∀ b, b < wr.heap.size → wc.heap[b]? = wr.heap[b]?) := fun b hb => (hg7.block b (by have := S5.out.2; omega) (fun e => by have := Option.some.inj e; omega)).trans (KO.out b hb)
        have hOlt : w.heap.size + 1 + 1 < wr.heap.size := (Array.getElem?_eq_some_iff.1 CI.out.box).1
        have OB7 := hide ((K7.out _ hOlt).trans CI.out.box)
        obtain ⟨-, -, -, -, o4⟩ := nod_cells (n := ⟨op, nam, ⟨xa, ins.length, xc⟩, out, v⟩) OB7.out
        obtain ⟨c0, c1, c2, c3, c4, c5, c6, c7, c8⟩ := atr_cells (a := ⟨A.name, A.kind, A.f, A.i, A.s, A.ty, d, t, i'⟩) BA7.out
        have OW7 : Hid (∀ o, OwnsL 80 9 acells (wc.alloc o) W2.heap.size v.v ys) := fun o => World.ownsRow.alloc (owns_block CI.out.own (fun b hb => K7.out b (World.ownsRow.lt CI.out.own b hb).2)) o
        have s7 : wr.heap.size < wc.heap.size := by have := S5.out.2; have := hg7.size; omega
        have b2r : W2.heap.size ≤ wr.heap.size := CI.out.grown.size
        have hyl := CI.out.len
        have hvn : v.n = ys.length := by
          obtain ⟨va, vc, e⟩ := OwnsL.form CI.out.own
          simp only [Sl.v, Value.slice.injEq] at e
          exact e.2.1
        have HVN := hide hvn
        have HYL := hide hyl
        clear hvn hyl
        go_wp2_with (at_builtin; refine wpList_append_lies _ rfl (.tmp 51) (.tmp 53) 40 rfl W2.heap.size 80 i1 (.agg #[.string ⟨#[]⟩, .int .i64 0, .int .i64 0, .int .i64 0, .string ⟨#[]⟩, .int .i64 0, .slice none 0 0, .slice none 0 0, .slice none 0 0]) 9 136 Tryd.underlying40 hj jz0 jz1 jz2 rfl (by decide) v.v ys.length (ys.flatMap acells) rfl (by exact OW7.out _) ⟨wc.heap.size, 0, none⟩ 1 1 (acells ⟨A.name, A.kind, A.f, A.i, A.s, A.ty, d, t, i'⟩) rfl rfl (by exact World.news_of_block (heap_alloc_new wc _)) (acell_one _) (by omega) (by have := HYL.out; simp only [maxLen]; omega) (by have := HYL.out; omega) (by simp; omega) (wc.heap.size + 1) (by simp) ?_; intro g cap' w8 hown' hgrow hat hlt8; have OB8 := hide ((hgrow.block (w.heap.size + 1 + 1) (by simp; omega) (fun e => by have := World.ownsRow.lt CI.out.own _ e.symm; have := S2.out.1; omega)).trans (box_kept OB7.out (grown_new wc _))); clear o4 n4; obtain ⟨-, -, -, -, f4⟩ := nod_frozen OB8.out; obtain ⟨-, -, -, -, o4⟩ := nod_cells (n := ⟨op, nam, ⟨xa, ins.length, xc⟩, out, v⟩) OB8.out)
        obtain ⟨q1, q2, q3⟩ := put1 (j := 4) (.slice (some ⟨g, 0, none⟩) (ys.length + 1) cap') OB8.out
        have ST : Hid (CInv W2 (w.heap.size + 1 + 1) W2.heap.size op nam out ⟨xa, ins.length, xc⟩ xs cs (k + 1) (w8.setCell ⟨w.heap.size + 1 + 1, 4, none⟩ (.slice (some ⟨g, 0, none⟩) (ys.length + 1) cap')) ⟨some ⟨g, 0, none⟩, ys.length + 1, cap'⟩ (ys ++ [⟨A.name, A.kind, A.f, A.i, A.s, A.ty, d, t, i'⟩])) := by
          have vlt : ∀ b, v.v.ownBlock = some b → W2.heap.size ≤ b ∧ b < wr.heap.size := fun b e => World.ownsRow.lt CI.out.own b e
          have hO2 := S2.out.1
          have s4 := hg4.size
          have s3 := S3.out
          have s5 := S5.out
          have s7' := hg7.size
          have s8 := hgrow.size
          have sa : (wc.alloc (.cells #[.string A.name, .int .i64 A.kind, .int .i64 A.f, .int .i64 A.i, .string A.s, .int .i64 A.ty, .slice d.a d.n d.c, .slice t.a t.n t.c, .slice i'.a i'.n i'.c] 80)).heap.size = wc.heap.size + 1 := by simp
          rw [sa] at s8
          have ND7 : New (wr.heap.size + 1) wc.heap.size d.v := ND4.out.mono (by omega) (by omega)
          have NT7 : New (wr.heap.size + 1) wc.heap.size t.v := NT4.out.mono (by omega) (by omega)
          have NI7' : New (wr.heap.size + 1) wc.heap.size i'.v := NI7.out.mono (by omega) (Nat.le_refl _)
          have carry : ∀ {u : Value} {zs : List Int}, New (wr.heap.size + 1) wc.heap.size u → IsInts wc u zs → IsInts (w8.setCell ⟨w.heap.size + 1 + 1, 4, none⟩ (.slice (some ⟨g, 0, none⟩) (ys.length + 1) cap')) u zs := by
            intro u zs hn hu
            have a1 := hu.more (grown_new wc (.cells #[.string A.name, .int .i64 A.kind, .int .i64 A.f, .int .i64 A.i, .string A.s, .int .i64 A.ty, .slice d.a d.n d.c, .slice t.a t.n t.c, .slice i'.a i'.n i'.c] 80))
            have a2 := a1.kept (w' := w8) (fun b hb e => hgrow.block b hb (fun e2 => by have := vlt b e2.symm; have := hn b e; omega))
            exact a2.past hn (Or.inl (by omega)) q2
          refine CInv.step (lo := wc.heap.size) CI.out hlt (by omega) (Nat.le_refl _) b2r (by omega) ?_ (by omega) ?_ ?_ ?_ (by simpa using q1) ?_ ?_ ?_ ?_ (by omega) ?_
          · intro b hb hne hv
            refine (q2.block b (by omega) (fun e => hne (Option.some.inj e))).trans ((hgrow.block b (by rw [sa]; omega) (fun e => hv e.symm)).trans (((grown_new wc _).block b (by omega) (by simp)).trans (K7.out b hb)))
          · exact q2.os.trans (hgrow.os.trans ((grown_new wc _).os.trans (hg7.os.trans (G45.out.os.trans (hg4.os.trans G3.os)))))
          · exact q2.tape.trans (hgrow.tape.trans ((grown_new wc _).tape.trans (hg7.tape.trans (G45.out.tape.trans (hg4.tape.trans G3.tape)))))
          · exact q2.output.trans (hgrow.output.trans ((grown_new wc _).output.trans (hg7.output.trans (G45.out.output.trans (hg4.output.trans G3.output)))))
          · have o1 : OwnsL 80 9 acells w8 W2.heap.size (.slice (some ⟨g, 0, none⟩) (ys.length + 1) cap') (ys ++ [⟨A.name, A.kind, A.f, A.i, A.s, A.ty, d, t, i'⟩]) := by
              unfold OwnsL
              rw [List.length_append, List.flatMap_append]
              simpa using hown'
            exact o1.kept q2 (by intro r e; cases e; omega)
          · rw [← HA.out]; rfl
          · intro c' hc'
            obtain rfl : c = c' := Option.some.inj (HCC.out.symm.trans hc')
            refine ⟨carry ND7 ?_, carry NT7 ?_, carry NI7' HI7.out⟩
            · exact (HD4.out.past (ND4.out.mono (Nat.le_of_eq s3.symm) (Nat.le_refl _)) (Or.inl (by omega)) G45.out).past ND7 (Or.inl (by omega)) hg7
            · exact (HT4.out.past (NT4.out.mono (Nat.le_of_eq s3.symm) (Nat.le_refl _)) (Or.inl (by omega)) G45.out).past NT7 (Or.inl (by omega)) hg7
          · exact ⟨ND7.mono (by omega) (Nat.le_refl _), NT7.mono (by omega) (Nat.le_refl _), NI7'.mono (by omega) (Nat.le_refl _)⟩
          · intro b hb
            have hb' : g = b := by simpa [Value.ownBlock] using hb
            subst hb'
            rcases hat with h | h
            · exact Or.inl h
            · exact Or.inr (by omega)
        go_roundw
        case rel => exact ⟨k + 1, _, _, by omega, by go_num, ST.out⟩
        case measure => simp [intOf]; omega
    · obtain rfl : k = xs.length := by omega
      have C2r := hide ((CI.out.grown.block _ (Array.getElem?_eq_some_iff.1 C2.out).1 (fun e => by have := Option.some.inj e; omega)).trans C2.out)
      obtain ⟨o0, o1, o2, o3, o4⟩ := nod_cells (n := ⟨op, nam, ⟨xa, ins.length, xc⟩, out, v⟩) CI.out.box
      obtain ⟨f0, f1, f2, f3, f4⟩ := nod_frozen C2r.out
      obtain ⟨r0, r1, r2, r3, r4⟩ := nod_cells (n := ⟨⟨#[]⟩, ⟨#[]⟩, ⟨none, 0, 0⟩, ⟨#[]⟩, ⟨none, 0, 0⟩⟩) C2r.out
      go_wp2
      obtain ⟨h1', G1', s1'⟩ := put1 (j := 0) (.string op) C2r.out
      obtain ⟨h2', G2', s2'⟩ := put1 (j := 1) (.string nam) h1'
      obtain ⟨h3', G3', s3'⟩ := put1 (j := 2) (.slice xa ins.length xc) h2'
      obtain ⟨h4', G4', s4'⟩ := put1 (j := 3) (.string out) h3'
      obtain ⟨h5', G5', s5'⟩ := put1 (j := 4) (.slice v.a v.n v.c) h4'
      have G5 := grown_same (grown_same (grown_same (grown_same G1' G2') G3') G4') G5'
      refine bodyPost_ret (ret_nod rfl _ _ (w.heap.size + 1) rfl (by simpa using h5')) rfl ?_
      refine ⟨⟨xa, ins.length, xc⟩, v, rfl, ys, ?_⟩
      have hO2 := S2.out
      have s0 := S0.out
      have sg := CI.out.grown.size
      have sg5 := G5.size
      have ivlt : ∀ b, (Value.slice xa ins.length xc).ownBlock = some b → w0.heap.size ≤ b ∧ b < W2.heap.size := fun b e => World.ownsRow.lt HOW.out b e
      have avlt : ∀ b, v.v.ownBlock = some b → W2.heap.size ≤ b ∧ b < wr.heap.size := fun b e => World.ownsRow.lt CI.out.own b e
      refine ⟨?_, ?_, ?_, ?_, ?_, ?_, ?_⟩
      · have a1 := HOW.out.kept CI.out.grown (by intro r e; cases e; omega)
        exact (a1.kept G5 (by intro r e; cases e; omega)).base_le (by omega)
      · exact (CI.out.own.kept G5 (by intro r e; cases e; omega)).base_le (by omega)
      · have := CI.out.eq
        rwa [List.take_of_length_le (Nat.le_refl _)] at this
      · intro j a c ha hc
        refine (CI.out.has j a c ha hc).kept fun b hb e => G5.block b hb (fun e2 => ?_)
        have := (CI.out.new a (List.mem_of_getElem? ha)).1.any e
        cases e2
        omega
      · intro a ha
        have hm := CI.out.new a ha
        refine ⟨hm.1.mono (by omega) sg5, hm.2, ApA.of fun b e hv => ?_⟩
        have h1 := hm.1.any e
        have h2 := ivlt b hv
        omega
      · intro b e hv
        have h1 := ivlt b e
        have h2 := avlt b hv
        omega
      · exact grown_trans_row (grown_trans_row g1 CI.out.grown (fun r e => by cases e; omega)) G5 (fun r e => by cases e; omega)
end Go.Proofs.YtflalpchhojenaaDoor
