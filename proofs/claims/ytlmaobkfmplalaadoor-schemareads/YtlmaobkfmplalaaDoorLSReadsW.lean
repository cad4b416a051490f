/- Any attribute of any node: the law, by the walk. -/
import Derived.Test.YtlmaobkfmplalaaDoorNRReads
import Derived.Test.YtlmaobkfmplalaaDoorNSameN
namespace Go.Proofs.YtlmaobkfmplalaaDoor
open Go.RowKit

theorem NodeIn.kept {w w' : World} {n : Nod} {ins : List ByteArray} {xs : List Atr} {cs : List Cont} (h : NodeIn w n ins xs cs) (kp : ∀ b, b < w.heap.size → w'.heap[b]? = w.heap[b]?) : NodeIn w' n ins xs cs :=
  ⟨h.ins.kept fun b hb _ => kp b hb, h.av.kept fun b hb _ => kp b hb, fun j a e => by obtain ⟨c, e1, e2⟩ := h.has j a e; exact ⟨c, e1, e2.kept fun b hb _ => kp b hb⟩, h.few, h.short⟩

/-- The copy, as a node that comes in. -/
theorem Copied.node {w w' : World} {n : Nod} {ins : List ByteArray} {xs ys : List Atr} {cs : List Cont} {iv av : Sl} {op nam out : ByteArray} (h : Copied w w' n ins xs cs iv av ys) (hn : NodeIn w n ins xs cs) : NodeIn w' ⟨op, nam, iv, out, av⟩ ins ys cs := by
  obtain ⟨-, -, -, -, -, hi3⟩ := hn.ins.form
  obtain ⟨-, -, -, -, -, ha3⟩ := hn.av.form
  refine ⟨h.ins.isL (bytes := 16) scell_len hi3, h.own.isL (bytes := 136) acells_len (by rw [h.len]; exact ha3), ?_, by rw [h.len]; exact hn.few, strip_s h.eq hn.short⟩
  intro j a ha
  have hj : j < xs.length := by rw [← h.len]; exact (List.getElem?_eq_some_iff.1 ha).1
  obtain ⟨c, hc, -⟩ := hn.has j xs[j] (List.getElem?_eq_getElem hj)
  exact ⟨c, hc, h.has j a c ha hc⟩

theorem intV_strip {xs ys : List Atr} (h : ys.map strip = xs.map strip) (nm : ByteArray) (z : Int) : intV ys nm z = intV xs nm z := by
  have e : ∀ l : List Atr, intV (l.map strip) nm z = intV l nm z := by
    intro l
    unfold intV
    rw [find_strip]
    cases l.find? (isA nm 2) <;> rfl
  rw [← e ys, h, e]

theorem bitsV_strip {xs ys : List Atr} (h : ys.map strip = xs.map strip) (nm : ByteArray) (z : Int) : bitsV ys nm z = bitsV xs nm z := by
  have e : ∀ l : List Atr, bitsV (l.map strip) nm z = bitsV l nm z := by
    intro l
    unfold bitsV
    rw [find_strip]
    cases l.find? (isA nm 1) <;> rfl
  rw [← e ys, h, e]

theorem intsV_strip {xs ys : List Atr} {cs : List Cont} (h : ys.map strip = xs.map strip) (nm : ByteArray) (zs : List Int) : intsV ys cs nm zs = intsV xs cs nm zs := by
  have e : ∀ l : List Atr, intsV (l.map strip) cs nm zs = intsV l cs nm zs := by
    intro l
    unfold intsV
    rw [zip_strip l cs (isA nm 7) (fun _ => rfl)]
    cases (l.zip cs).find? (fun p => isA nm 7 p.1) <;> rfl
  rw [← e ys, h, e]

/-- The first k of a list, spoilt. -/
def spl (k : Nat) (zs : List Int) : List Int := List.replicate k (-7) ++ zs.drop k

theorem spl_len {k : Nat} {zs : List Int} (hk : k ≤ zs.length) : (spl k zs).length = zs.length := by
  unfold spl
  rw [List.length_append, List.length_replicate, List.length_drop]
  omega

theorem spl_set {k : Nat} {zs : List Int} (hk : k < zs.length) : (spl k zs).set k (-7) = spl (k + 1) zs := by
  unfold spl
  rw [List.set_append_right _ _ (by simp), List.length_replicate, Nat.sub_self, List.drop_eq_getElem_cons hk, List.set_cons_zero, List.replicate_succ', List.append_assoc]
  rfl

theorem spl_at {k : Nat} {zs : List Int} (hk : k < zs.length) : (spl k zs)[k]? = some (zs.getD k 0) := by
  unfold spl
  rw [List.getElem?_append_right (by simp), List.length_replicate, Nat.sub_self, List.drop_eq_getElem_cons hk]
  simp [List.getD, hk]

/-- What stands while the list is spoilt. -/
structure RInv (w4 w7 : World) (u : Sl) (vs : List Int) (k : Nat) (wr : World) : Prop where
  own : OwnsL 2 1 icell wr w4.heap.size u.v (spl k vs)
  os : wr.os = w7.os
  tape : wr.tape = w7.tape
  output : wr.output = w7.output
  size : w7.heap.size ≤ wr.heap.size
  kp : ∀ c, c < w7.heap.size → u.v.ownBlock ≠ some c → wr.heap[c]? = w7.heap[c]?

theorem RInv.drew {w4 w7 wr : World} {u : Sl} {vs : List Int} {k : Nat} (h : RInv w4 w7 u vs k wr) : RInv w4 w7 u vs k wr.drew :=
  ⟨h.own.more (grown_drew (grown_refl wr)), h.os, h.tape, h.output, h.size, h.kp⟩

theorem RInv.step {w4 w7 wr : World} {g c : Nat} {vs : List Int} {k : Nat} (h : RInv w4 w7 ⟨some ⟨g, 0, none⟩, vs.length, c⟩ vs k wr) (hk : k < vs.length) : RInv w4 w7 ⟨some ⟨g, 0, none⟩, vs.length, c⟩ vs (k + 1) (wr.setCell ⟨g, k, none⟩ (.int .i64 (-7))) := by
  have ho := h.own
  unfold OwnsL at ho
  simp only [Sl.v] at ho
  rw [spl_len (by omega)] at ho
  obtain ⟨o1, g1⟩ := ho.stored k (.int .i64 (-7))
  refine ⟨?_, h.os, h.tape, h.output, Nat.le_trans h.size g1.size, ?_⟩
  · unfold OwnsL
    simp only [Sl.v]
    rw [spl_len (by omega), ← spl_set hk]
    rw [icells] at o1 ⊢
    rwa [List.map_set]
  · intro d hd hne
    exact (g1.block d (Nat.lt_of_lt_of_le hd h.size) (fun e => hne e.symm)).trans (h.kp d hd hne)

set_option maxRecDepth 100000 in
set_option maxHeartbeats 12800000 in
theorem sreads_walk (n : Nod) (ins : List ByteArray) (xs : List Atr) (cs : List Cont) (nm : ByteArray) (other : Sl) (zs : List Int) (w : World) (hl : Laid w) (hn : NodeIn w n ins xs cs) (_hfew : xs.length ≤ 1048576) (_hs : nm.size ≤ 1048576) (ho : IsInts w other.v zs) :
    Calls Tryd.prog 4 #[nval n, .string nm, .slice other.a other.n other.c] w fun e w' => e = .returned (.bool true) ∧ Below w.heap.size w w' := by
  have HLA := hide hl
  have HN := hide hn
  have HOT := hide ho
  have CN := hide (fun (wx : World) (hx : w.grownBy wx none) => copynode_any n ins xs cs wx (hn.ins.more hx) (hn.av.more hx) (hn.more hx).has hn.few)
  have RN := hide (fun (wx : World) (hx : w.grownBy wx none) => rints_any n xs cs nm other zs wx (hn.av.more hx) (hn.more hx).has (ho.more hx))
  have RI := hide (fun (wx : World) (hx : w.grownBy wx none) => rint_any n xs cs nm 7 wx (hn.av.more hx) (hn.more hx).has)
  have RB := hide (fun (wx : World) (hx : w.grownBy wx none) => rbits_any n xs cs nm 9 wx (hn.av.more hx) (hn.more hx).has)
  obtain ⟨i0, hi, hz0, hz1, hz2⟩ := info_parts infoI64
  obtain ⟨oa, on, oc⟩ := other
  obtain ⟨oa', oc', eo, o1, o2, o3, -⟩ := ho
  obtain ⟨rfl, rfl, rfl⟩ : oa = oa' ∧ on = zs.length ∧ oc = oc' := by simpa [Sl.v] using eo
  obtain ⟨op, nam, ⟨ia, il, ic⟩, out, ⟨ao, al, cap⟩⟩ := n
  unfold nval at CN RN RI RB ⊢
  simp only at CN RN RI RB ⊢
  clear hl hn eo
  obtain ⟨w0, hw0⟩ : ∃ w0, w0 = w.alloc (.cells #[.string op, .string nam, .slice ia il ic, .string out, .slice ao al cap] 25) := ⟨_, rfl⟩
  have g0 : w.grownBy w0 none := by rw [hw0]; exact grown_new _ _
  have hb0 := heap_alloc_new w (.cells #[.string op, .string nam, .slice ia il ic, .string out, .slice ao al cap] 25)
  obtain ⟨n0, n1, n2, n3, n4⟩ := nod_cells (n := ⟨op, nam, ⟨ia, il, ic⟩, out, ⟨ao, al, cap⟩⟩) hb0
  rw [← hw0] at hb0
  have BX := hide hb0
  clear hb0
  go_enter Tryd.func4, Tryd.ntmps4
  go_wp2_with fail
  rw [← hw0]
  clear hw0 n0 n1 n2 n3 n4
  refine (CN.out w0 g0).mono ?_
  rintro e w2 ⟨iv, av, ys, rfl, hcp⟩
  have HCP := hide hcp
  have g2 := grown_trans g0 hcp.grown
  obtain ⟨W3, hW3⟩ : ∃ W3, W3 = w2.alloc (.cells #[.string op, .string nam, .slice iv.a iv.n iv.c, .string out, .slice av.a av.n av.c] 25) := ⟨_, rfl⟩
  have G3 : w2.grownBy W3 none := by rw [hW3]; exact grown_new _ _
  have bM := heap_alloc_new w2 (.cells #[.string op, .string nam, .slice iv.a iv.n iv.c, .string out, .slice av.a av.n av.c] 25)
  rw [← hW3] at bM
  have BM := hide bM
  have g3 := grown_trans g2 G3
  have HL3 := hide (isL_ints (HOT.out.more g3))
  clear hcp bM
  go_wp2_with (at_builtin; refine wpl_fresh rfl (.tmp 15) (.tmp 16) 35 2 1 8 (.int .i64 0) i0 icell rfl Tryd.underlying35 hi hz0 hz1 hz2 rfl (by decide) rfl _ zs rfl (by rw [← hW3]; exact HL3.out) icell_len icell_one ?_; intro v' w4 hown hgrow; rw [← hW3] at hown hgrow; have HR := hide hown; obtain ⟨ra, rc, rfl⟩ := OwnsL.form hown; clear hown; have BM4 := hide (box_kept BM.out hgrow); obtain ⟨m0, m1, m2, m3, m4⟩ := nod_cells (n := ⟨op, nam, iv, out, av⟩) BM4.out)
  have g4 := grown_trans g3 hgrow
  have BN4 := hide (box_kept BX.out (grown_trans (grown_trans HCP.out.grown G3) hgrow))
  have NO : Hid (NodeIn w4 ⟨op, nam, iv, out, av⟩ ins ys cs) := (HCP.out.node (HN.out.more g0)).more (grown_trans G3 hgrow)
  have NI := hide (HN.out.more g4)
  have IR : Hid (IsInts w4 (.slice ra zs.length rc) zs) := ints_owns HR.out HOT.out.le HOT.out.wf
  have HIOx := hide (HOT.out.more g4)
  have MB : Hid (∀ wx, w4.grownBy wx none → wx.heap[w2.heap.size]? = some (.cells #[.string op, .string nam, .slice iv.a iv.n iv.c, .string out, .slice av.a av.n av.c] 25 (0, 0))) := fun wx hx => box_kept BM4.out hx
  have NB : Hid (∀ wx, w4.grownBy wx none → wx.heap[w.heap.size]? = some (.cells #[.string op, .string nam, .slice ia il ic, .string out, .slice ao al cap] 25 (0, 0))) := fun wx hx => box_kept BN4.out hx
  have CS := hide (sints_any ⟨op, nam, iv, out, av⟩ ys cs nm ⟨ra, zs.length, rc⟩ zs w4 NO.out.av NO.out.has IR.out)
  have CI4 := hide (fun (wx : World) (hx : w4.grownBy wx none) => sint_any ⟨op, nam, iv, out, av⟩ ys cs nm 7 wx (NO.out.av.more hx) (NO.out.more hx).has)
  have CB4 := hide (fun (wx : World) (hx : w4.grownBy wx none) => sbits_any ⟨op, nam, iv, out, av⟩ ys cs nm 9 wx (NO.out.av.more hx) (NO.out.more hx).has)
  unfold nval at CS CI4 CB4
  simp only at CS CI4 CB4
  rw [intsV_strip HCP.out.eq] at CS
  rw [intV_strip HCP.out.eq] at CI4
  rw [bitsV_strip HCP.out.eq] at CB4
  refine CS.out.mono ?_
  rintro e w5 ⟨⟨uaa, un, ucc⟩, he, hu, hg5⟩
  simp only [Sl.v] at he
  subst he
  have HU5 := hide hu
  obtain ⟨ua, uc, eu⟩ := OwnsL.form hu
  obtain ⟨vs, hvs⟩ : ∃ vs, vs = intsV xs cs nm zs := ⟨_, rfl⟩
  rw [← hvs] at eu HU5 RN
  obtain ⟨rfl, rfl, rfl⟩ : uaa = ua ∧ un = vs.length ∧ ucc = uc := by simpa [Sl.v] using eu
  clear m0 m1 m2 m3 m4 hu eu hvs
  obtain ⟨n0, n1, n2, n3, n4⟩ := nod_cells (n := ⟨op, nam, ⟨ia, il, ic⟩, out, ⟨ao, al, cap⟩⟩) (NB.out w5 hg5)
  go_wp2_with fail
  refine (RN.out w5 (grown_trans g4 hg5)).mono ?_
  rintro e w6 ⟨⟨xaa, xn, xcc⟩, he, hu2, hg6⟩
  simp only [Sl.v] at he
  subst he
  have HU6 := hide hu2
  obtain ⟨xa, xc, eu⟩ := OwnsL.form hu2
  obtain ⟨rfl, rfl, rfl⟩ : xaa = xa ∧ xn = vs.length ∧ xcc = xc := by simpa [Sl.v] using eu
  clear n0 n1 n2 n3 n4 hu2 eu
  have g46 := grown_trans hg5 hg6
  have CI := hide (fun (wx : World) (hx : w6.grownBy wx none) => CI4.out wx (grown_trans g46 hx))
  have CB := hide (fun (wx : World) (hx : w6.grownBy wx none) => CB4.out wx (grown_trans g46 hx))
  have CJ := hide (fun (wx : World) (hx : w6.grownBy wx none) => RI.out wx (grown_trans g4 (grown_trans g46 hx)))
  have CC := hide (fun (wx : World) (hx : w6.grownBy wx none) => RB.out wx (grown_trans g4 (grown_trans g46 hx)))
  obtain ⟨X, hX⟩ : ∃ X, X = intV xs nm 7 := ⟨_, rfl⟩
  obtain ⟨Y, hY⟩ : ∃ Y, Y = bitsV xs nm 9 := ⟨_, rfl⟩
  rw [← hX] at CI CJ
  rw [← hY] at CB CC
  clear hX hY CI4 CB4 RI RB RN CS
  go_wp2_with fail
  go_cut [48] from 26 to 48 (fun c wx => c = .bool false ∧ w6.grownBy wx none)
  case first =>
    have gd := grown_drew (grown_refl w6)
    have MB6 : Hid (∀ wx, w6.grownBy wx none → wx.heap[w2.heap.size]? = some (.cells #[.string op, .string nam, .slice iv.a iv.n iv.c, .string out, .slice av.a av.n av.c] 25 (0, 0))) := fun wx hx => MB.out wx (grown_trans g46 hx)
    have NB6 : Hid (∀ wx, w6.grownBy wx none → wx.heap[w.heap.size]? = some (.cells #[.string op, .string nam, .slice ia il ic, .string out, .slice ao al cap] 25 (0, 0))) := fun wx hx => NB.out wx (grown_trans g46 hx)
    clear MB NB
    obtain ⟨MB, hMB⟩ : ∃ MB, MB = MB6 := ⟨_, rfl⟩
    obtain ⟨NB, hNB⟩ : ∃ NB, NB = NB6 := ⟨_, rfl⟩
    clear hMB hNB MB6 NB6
    obtain ⟨m0, m1, m2, m3, m4⟩ := nod_cells (n := ⟨op, nam, iv, out, av⟩) (MB.out w6 (grown_refl _)); obtain ⟨n0, n1, n2, n3, n4⟩ := nod_cells (n := ⟨op, nam, ⟨ia, il, ic⟩, out, ⟨ao, al, cap⟩⟩) (NB.out w6 (grown_refl _))
    go_region_held3 (fun w' => w'.cell? ⟨w2.heap.size, 0, none⟩ = some (.string op) ∧ w'.cell? ⟨w2.heap.size, 1, none⟩ = some (.string nam) ∧ w'.cell? ⟨w2.heap.size, 2, none⟩ = some (.slice iv.a iv.n iv.c) ∧ w'.cell? ⟨w2.heap.size, 3, none⟩ = some (.string out) ∧ w'.cell? ⟨w2.heap.size, 4, none⟩ = some (.slice av.a av.n av.c) ∧ w'.cell? ⟨w.heap.size, 0, none⟩ = some (.string op) ∧ w'.cell? ⟨w.heap.size, 1, none⟩ = some (.string nam) ∧ w'.cell? ⟨w.heap.size, 2, none⟩ = some (.slice ia il ic) ∧ w'.cell? ⟨w.heap.size, 3, none⟩ = some (.string out) ∧ w'.cell? ⟨w.heap.size, 4, none⟩ = some (.slice ao al cap)) (go_keep) (first | (go_at_call 19; with_reducible refine (CI.out _ (by first | exact gd | exact GJ | exact GB | exact GC)).mono ?_; rintro e vI ⟨rfl, hgI⟩; have GI : w6.grownBy vI none := (by first | exact grown_trans gd hgI | exact grown_trans GJ hgI | exact grown_trans GB hgI | exact grown_trans GC hgI); obtain ⟨m0, m1, m2, m3, m4⟩ := nod_cells (n := ⟨op, nam, iv, out, av⟩) (MB.out vI GI); obtain ⟨n0, n1, n2, n3, n4⟩ := nod_cells (n := ⟨op, nam, ⟨ia, il, ic⟩, out, ⟨ao, al, cap⟩⟩) (NB.out vI GI)) | (go_at_call 20; with_reducible refine (CJ.out _ (by first | exact gd | exact GI | exact GB | exact GC)).mono ?_; rintro e vJ ⟨rfl, hgJ⟩; have GJ : w6.grownBy vJ none := (by first | exact grown_trans gd hgJ | exact grown_trans GI hgJ | exact grown_trans GB hgJ | exact grown_trans GC hgJ); obtain ⟨m0, m1, m2, m3, m4⟩ := nod_cells (n := ⟨op, nam, iv, out, av⟩) (MB.out vJ GJ); obtain ⟨n0, n1, n2, n3, n4⟩ := nod_cells (n := ⟨op, nam, ⟨ia, il, ic⟩, out, ⟨ao, al, cap⟩⟩) (NB.out vJ GJ)) | (go_at_call 21; with_reducible refine (CB.out _ (by first | exact GI | exact GJ | exact gd | exact GC)).mono ?_; rintro e vB ⟨rfl, hgB⟩; have GB : w6.grownBy vB none := (by first | exact grown_trans GI hgB | exact grown_trans GJ hgB | exact grown_trans gd hgB | exact grown_trans GC hgB); obtain ⟨m0, m1, m2, m3, m4⟩ := nod_cells (n := ⟨op, nam, iv, out, av⟩) (MB.out vB GB); obtain ⟨n0, n1, n2, n3, n4⟩ := nod_cells (n := ⟨op, nam, ⟨ia, il, ic⟩, out, ⟨ao, al, cap⟩⟩) (NB.out vB GB)) | (go_at_call 22; with_reducible refine (CC.out _ (by first | exact GI | exact GJ | exact GB | exact gd)).mono ?_; rintro e vC ⟨rfl, hgC⟩; have GC : w6.grownBy vC none := (by first | exact grown_trans GI hgC | exact grown_trans GJ hgC | exact grown_trans GB hgC | exact grown_trans gd hgC); obtain ⟨m0, m1, m2, m3, m4⟩ := nod_cells (n := ⟨op, nam, iv, out, av⟩) (MB.out vC GC); obtain ⟨n0, n1, n2, n3, n4⟩ := nod_cells (n := ⟨op, nam, ⟨ia, il, ic⟩, out, ⟨ao, al, cap⟩⟩) (NB.out vC GC)))
    all_goals
      go_wp2_with fail
      go_meet
      first | exact ⟨rfl, GC⟩ | exact ⟨rfl, GB⟩ | exact ⟨rfl, GJ⟩ | exact ⟨rfl, GI⟩
  case rest =>
    obtain ⟨rfl, hg7⟩ := hcut
    have g47 := grown_trans g46 hg7
    have HG47 := hide g47
    have HU7 : Hid (OwnsL 2 1 icell wc w4.heap.size (.slice uaa vs.length ucc) vs) := HU5.out.more (grown_trans hg6 hg7)
    have HX7 : Hid (OwnsL 2 1 icell wc w5.heap.size (.slice xaa vs.length xcc) vs) := HU6.out.more hg7
    have ULT : Hid (∀ c, (Value.slice uaa vs.length ucc).ownBlock = some c → w4.heap.size ≤ c ∧ c < w5.heap.size) := fun c e => World.ownsRow.lt HU5.out c e
    have XLT : Hid (∀ c, (Value.slice xaa vs.length xcc).ownBlock = some c → w5.heap.size ≤ c ∧ c < wc.heap.size) := fun c e => World.ownsRow.lt HX7.out c e
    have INV : Hid (RInv w4 wc ⟨uaa, vs.length, ucc⟩ vs 0 wc) := ⟨HU7.out, rfl, rfl, rfl, Nat.le_refl _, fun _ _ _ => rfl⟩
    have hvl : vs.length ≤ 9223372036854775807 := by
      rcases HU7.out.2 with ⟨-, h⟩ | ⟨g', cap', cur, h', hbb, hg, hnc, hcm, hcs, htake⟩
      · omega
      · simp only [maxLen] at hcm; omega
    obtain ⟨wz, hwz⟩ : ∃ wz, wz = wc := ⟨_, rfl⟩
    clear g46 hg7 hg6 HU5 HU6 CI CB CJ CC
    go_wp2_with fail
    go_loopw [11] (fun i wr => ∃ k : Nat, k ≤ vs.length ∧ i = .int .i64 k ∧ RInv w4 wc ⟨uaa, vs.length, ucc⟩ vs k wr) (fun i _ => vs.length - (intOf i).toNat)
    case atStart => exact ⟨0, Nat.zero_le _, rfl, INV.out⟩
    case round =>
      obtain ⟨k, hk, rfl, hinv⟩ := hrel
      have RV := hide hinv
      clear hinv
      by_cases hlt : k < vs.length
      · obtain ⟨g, c2, hu2, hgb, hgl⟩ := World.ownsRow.form HU7.out (by omega)
        obtain ⟨rfl, rfl⟩ : uaa = some ⟨g, 0, none⟩ ∧ ucc = c2 := by simpa using hu2
        obtain ⟨gx, cx, hx2, hxb, hxl⟩ := World.ownsRow.form HX7.out (by omega)
        obtain ⟨rfl, rfl⟩ : xaa = some ⟨gx, 0, none⟩ ∧ xcc = cx := by simpa using hx2
        have hoR := RV.out.drew.own
        unfold OwnsL at hoR
        simp only [Sl.v] at hoR
        rw [spl_len (by omega)] at hoR
        have hfz : wr.frozen? ⟨g, k, none⟩ = false := World.ownsRow.frozenAt hoR k
        have hcl : wr.cell? ⟨g, k, none⟩ = some (.int .i64 (vs.getD k 0)) := by
          have h := World.ownsRow.cellAt hoR k (by omega)
          rw [icells, List.getElem?_map, spl_at hlt] at h
          exact h
        have hgx : wr.heap[gx]? = wc.heap[gx]? := RV.out.kp gx hxl (fun e => by have h : g = gx := Option.some.inj e; have h1 := ULT.out g rfl; have h2 := XLT.out gx rfl; omega)
        have hcx : wr.cell? ⟨gx, k, none⟩ = some (.int .i64 (vs.getD k 0)) := by
          rw [World.cell?_of_block hgx]
          have h := World.ownsRow.cellAt HX7.out k (by omega)
          rw [icells, List.getElem?_map, List.getElem?_eq_getElem hlt] at h
          simpa [List.getD, hlt] using h
        obtain ⟨X1, hX1⟩ : ∃ X1, X1 = vs.getD k 0 := ⟨_, rfl⟩
        rw [← hX1] at hcl hcx
        have ST := hide (RV.out.drew.step hlt)
        clear hX1 hu2 hx2 hoR hgx
        go_wp2
        go_region
        all_goals
          go_wp2
          go_roundw
          case rel => exact ⟨k + 1, by omega, by go_num, ST.out⟩
          case measure => simp [intOf]; omega
      · obtain ⟨wy, hwy⟩ : ∃ wy, wy = wr := ⟨_, rfl⟩
        have KW : Hid (∀ c, c < w4.heap.size → wr.heap[c]? = w4.heap[c]?) := fun c hc => (RV.out.kp c (by have := HG47.out.size; omega) (fun e => by have := ULT.out c e; omega)).trans (HG47.out.block c hc (by simp))
        have GW : Hid (w.grownBy wr none) := ⟨RV.out.os.trans (HG47.out.os.trans g4.os), RV.out.tape.trans (HG47.out.tape.trans g4.tape), RV.out.output.trans (HG47.out.output.trans g4.output), Nat.le_trans g4.size (Nat.le_trans HG47.out.size RV.out.size), fun c hc _ => (KW.out c (Nat.lt_of_lt_of_le hc g4.size)).trans (g4.block c hc (by simp))⟩
        have NO9 := hide (NO.out.kept KW.out)
        have NI9 := hide (NI.out.kept KW.out)
        have IR9 := hide (IR.out.kept (w' := wr) (fun c hc _ => KW.out c hc))
        have IO9 := hide (HIOx.out.kept (w' := wr) (fun c hc _ => KW.out c hc))
        have BM9 : Hid (wr.heap[w2.heap.size]? = some (.cells #[.string op, .string nam, .slice iv.a iv.n iv.c, .string out, .slice av.a av.n av.c] 25 (0, 0))) := (KW.out _ (Array.getElem?_eq_some_iff.1 BM4.out).1).trans BM4.out
        have BN9 : Hid (wr.heap[w.heap.size]? = some (.cells #[.string op, .string nam, .slice ia il ic, .string out, .slice ao al cap] 25 (0, 0))) := (KW.out _ (Array.getElem?_eq_some_iff.1 BN4.out).1).trans BN4.out
        go_wp2_with fail
        go_loopw [12] (fun i wx => wr.grownBy wx none ∧ ∃ k : Nat, k ≤ zs.length ∧ i = .int .i64 k) (fun i _ => zs.length - (intOf i).toNat)
        case atStart => exact ⟨grown_refl _, 0, Nat.zero_le _, rfl⟩
        case round =>
          obtain ⟨hg8, k, hk, rfl⟩ := hrel
          by_cases hlt2 : k < zs.length
          · obtain ⟨ub, uo, rfl, x0⟩ := ints_addr' (IR9.out.more hg8) hlt2
            obtain ⟨vb, vo, rfl, y0⟩ := ints_addr' (IO9.out.more hg8) hlt2
            obtain ⟨X1, hX1⟩ : ∃ X1, X1 = zs.getD k 0 := ⟨_, rfl⟩
            rw [← hX1] at x0 y0
            clear hX1
            go_wp2
            go_region
            all_goals
              go_wp2
              go_roundw
              case rel => exact ⟨grown_drew hg8, k + 1, by omega, by go_num⟩
              case measure => simp [intOf]; omega
          · obtain ⟨m0, m1, m2, m3, m4⟩ := nod_cells (n := ⟨op, nam, iv, out, av⟩) (box_kept BM9.out hg8)
            obtain ⟨n0, n1, n2, n3, n4⟩ := nod_cells (n := ⟨op, nam, ⟨ia, il, ic⟩, out, ⟨ao, al, cap⟩⟩) (box_kept BN9.out hg8)
            have SN := hide (samenode_eq op nam out iv av ⟨ia, il, ic⟩ ⟨ao, al, cap⟩ ins xs ys cs _ (NO9.out.more hg8) (NI9.out.more hg8) HCP.out.eq)
            unfold nval at SN
            simp only at SN
            go_wp2_with fail
            refine SN.out.mono ?_
            rintro e w9 ⟨rfl, hg9⟩
            go_wp2_with fail
            refine (slive_any w9 (HLA.out.more (grown_trans GW.out (grown_trans hg8 hg9)))).mono ?_
            rintro e w10 ⟨rfl, hg10⟩
            go_wp2
            go_ret
            exact ⟨rfl, grown_below (grown_trans GW.out (grown_trans hg8 (grown_trans hg9 hg10)))⟩
end Go.Proofs.YtlmaobkfmplalaaDoor
