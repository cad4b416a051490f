/- Whether any node may be, and what follows in it: the law, by the walk. -/
import Derived.Test.YtlmaobkfmplalaaDoorNRCheck
import Derived.Test.YtlmaobkfmplalaaDoorLSReadsW
namespace Go.Proofs.YtlmaobkfmplalaaDoor
open Go.RowKit

theorem then_strip {xs ys : List Atr} (h : ys.map strip = xs.map strip) (nm : ByteArray) (kd : Int) : thenE (ys.find? (isA nm kd)) = thenE (xs.find? (isA nm kd)) ∧ thenL (ys.find? (isA nm kd)) = thenL (xs.find? (isA nm kd)) := by
  have e : ∀ l : List Atr, thenE ((l.map strip).find? (isA nm kd)) = thenE (l.find? (isA nm kd)) ∧ thenL ((l.map strip).find? (isA nm kd)) = thenL (l.find? (isA nm kd)) := by
    intro l
    rw [find_strip]
    cases l.find? (isA nm kd) <;> exact ⟨rfl, rfl⟩
  exact ⟨by rw [← (e ys).1, h, (e xs).1], by rw [← (e ys).2, h, (e xs).2]⟩

theorem thenL_few {xs : List Atr} {nm : ByteArray} {kd : Int} (h : ∀ a ∈ xs, a.s.size ≤ 1048576) : (thenL (xs.find? (isA nm kd))).length ≤ 1048577 := by
  cases hf : xs.find? (isA nm kd) with
  | none => simp [thenL]
  | some a =>
    have h1 := h a (List.mem_of_find?_eq_some hf)
    have h2 := pcs_len a.s.data.toList
    have h3 : a.s.data.toList.length = a.s.size := Array.length_toList
    unfold thenL
    simp only
    split
    · rw [List.length_map]; omega
    · simp

set_option maxRecDepth 100000 in
set_option maxHeartbeats 12800000 in
theorem schecks_walk (n : Nod) (ins : List ByteArray) (xs : List Atr) (cs : List Cont) (w : World) (hl : Laid w) (hn : NodeIn w n ins xs cs) (_hfew : xs.length ≤ 1048576) :
    Calls Tryd.prog 3 #[nval n] w fun e w' => e = .returned (.bool true) ∧ Below w.heap.size w w' := by
  have HLA := hide hl
  have HN := hide hn
  have CN := hide (fun (wx : World) (hx : w.grownBy wx none) => copynode_any n ins xs cs wx (hn.ins.more hx) (hn.av.more hx) (hn.more hx).has hn.few)
  have RT := hide (fun (wx : World) (hx : w.grownBy wx none) => rthen_any n xs wx (hn.av.more hx) hn.short)
  have RK0 := hide (fun (wx : World) (hx : w.grownBy wx none) => rnode_any n ins xs cs wx (hn.more hx))
  have HTF := hide (thenL_few (nm := ⟨#[116, 104, 101, 110]⟩) (kd := 3) hn.short)
  obtain ⟨op, nam, ⟨ia, il, ic⟩, out, ⟨ao, al, cap⟩⟩ := n
  unfold nval at CN RT RK0 ⊢
  simp only at CN RT RK0 ⊢
  clear hl hn
  obtain ⟨w0, hw0⟩ : ∃ w0, w0 = w.alloc (.cells #[.string op, .string nam, .slice ia il ic, .string out, .slice ao al cap] 25) := ⟨_, rfl⟩
  have g0 : w.grownBy w0 none := by rw [hw0]; exact grown_new _ _
  have hb0 := heap_alloc_new w (.cells #[.string op, .string nam, .slice ia il ic, .string out, .slice ao al cap] 25)
  obtain ⟨n0, n1, n2, n3, n4⟩ := nod_cells (n := ⟨op, nam, ⟨ia, il, ic⟩, out, ⟨ao, al, cap⟩⟩) hb0
  rw [← hw0] at hb0
  have BX := hide hb0
  clear hb0
  go_enter Tryd.func3, Tryd.ntmps3
  go_wp2_with fail
  rw [← hw0]
  clear hw0 n0 n1 n2 n3 n4
  refine (CN.out w0 g0).mono ?_
  rintro e w2 ⟨iv, av, ys, rfl, hcp⟩
  have HCP := hide hcp
  have g2 := grown_trans g0 hcp.grown
  obtain ⟨W3, hW3⟩ : ∃ W3, W3 = w2.alloc (.cells #[.string op, .string nam, .slice iv.a iv.n iv.c, .string out, .slice av.a av.n av.c] 25) := ⟨_, rfl⟩
  have G3 : w2.grownBy W3 none := by rw [hW3]; exact grown_new _ _
  have bM := heap_alloc_new w2 (.cells #[.string op, .string nam, .slice iv.a iv.n iv.c, .string out, .slice av.a av.n av.c] 25)
  obtain ⟨m0, m1, m2, m3, m4⟩ := nod_cells (n := ⟨op, nam, iv, out, av⟩) bM
  rw [← hW3] at bM
  have BM := hide bM
  have g3 := grown_trans g2 G3
  have NO : Hid (NodeIn W3 ⟨op, nam, iv, out, av⟩ ins ys cs) := (HCP.out.node (HN.out.more g0)).more G3
  have NI := hide (HN.out.more g3)
  have TH := hide (then_any ⟨op, nam, iv, out, av⟩ ys W3 (HLA.out.more g3) NO.out.av (fun a ha => by have := NO.out.short a ha; omega))
  unfold nval at TH
  simp only at TH
  rw [(then_strip HCP.out.eq _ _).1, (then_strip HCP.out.eq _ _).2] at TH
  have BN3 := hide (box_kept BX.out (grown_trans HCP.out.grown G3))
  clear hcp bM
  go_wp2_with fail
  rw [← hW3]
  clear hW3 m0 m1 m2 m3 m4
  refine TH.out.mono ?_
  obtain ⟨TL, hTL⟩ : ∃ TL, TL = thenL (xs.find? (isA ⟨#[116, 104, 101, 110]⟩ 3)) := ⟨_, rfl⟩
  obtain ⟨TE, hTE⟩ : ∃ TE, TE = thenE (xs.find? (isA ⟨#[116, 104, 101, 110]⟩ 3)) := ⟨_, rfl⟩
  rw [← hTL, ← hTE] at RT
  rw [← hTL] at HTF
  rw [← hTL, ← hTE]
  clear hTL hTE
  rintro e w4 ⟨va, rfl, hva, hg4⟩
  have HVA := hide hva
  obtain ⟨xa, xc, rfl⟩ := OwnsL.form hva
  have g4 := grown_trans g3 hg4
  clear hva TH
  obtain ⟨n0, n1, n2, n3, n4⟩ := nod_cells (n := ⟨op, nam, ⟨ia, il, ic⟩, out, ⟨ao, al, cap⟩⟩) (box_kept BN3.out hg4)
  go_wp2_with fail
  refine (RT.out w4 g4).mono ?_
  rintro e w5 ⟨vb, rfl, hvb, hg5⟩
  have HVB := hide hvb
  obtain ⟨ya, yc, rfl⟩ := OwnsL.form hvb
  have g5 := grown_trans g4 hg5
  have g35 := grown_trans hg4 hg5
  clear hvb n0 n1 n2 n3 n4 RT
  have MB : Hid (∀ wx, w5.grownBy wx none → wx.heap[w2.heap.size]? = some (.cells #[.string op, .string nam, .slice iv.a iv.n iv.c, .string out, .slice av.a av.n av.c] 25 (0, 0))) := fun wx hx => box_kept BM.out (grown_trans g35 hx)
  have NB : Hid (∀ wx, w5.grownBy wx none → wx.heap[w.heap.size]? = some (.cells #[.string op, .string nam, .slice ia il ic, .string out, .slice ao al cap] 25 (0, 0))) := fun wx hx => box_kept BN3.out (grown_trans g35 hx)
  have CK := hide (fun (wx : World) (hx : w5.grownBy wx none) => check_in ⟨op, nam, iv, out, av⟩ ins ys cs wx (HLA.out.more (grown_trans g5 hx)) (NO.out.more (grown_trans g35 hx)))
  have RK := hide (fun (wx : World) (hx : w5.grownBy wx none) => RK0.out wx (grown_trans g5 hx))
  have SM := hide (fun (wx : World) (hx : w5.grownBy wx none) => samestrs_any (.slice xa TL.length xc) (.slice ya TL.length yc) TL wx ((HVA.out.isL (bytes := 16) scell_len (by have := HTF.out; omega)).more (grown_trans hg5 hx)) ((HVB.out.isL (bytes := 16) scell_len (by have := HTF.out; omega)).more hx))
  have SN := hide (fun (wx : World) (hx : w5.grownBy wx none) => samenode_eq op nam out iv av ⟨ia, il, ic⟩ ⟨ao, al, cap⟩ ins xs ys cs wx (NO.out.more (grown_trans g35 hx)) (NI.out.more (grown_trans g35 hx)) HCP.out.eq)
  have LV := hide (fun (wx : World) (hx : w5.grownBy wx none) => slive_any wx (HLA.out.more (grown_trans g5 hx)))
  unfold nval at CK SN
  simp only at CK SN
  rw [checkF_strip HCP.out.eq] at CK
  obtain ⟨X, hX⟩ : ∃ X, X = checkF (ruleF op) op ins out xs cs := ⟨_, rfl⟩
  rw [← hX] at CK RK
  clear hX RK0 CN
  go_wp2_with fail
  have gd := grown_drew (grown_refl w5)
  obtain ⟨m0, m1, m2, m3, m4⟩ := nod_cells (n := ⟨op, nam, iv, out, av⟩) (MB.out w5 (grown_refl _)); obtain ⟨n0, n1, n2, n3, n4⟩ := nod_cells (n := ⟨op, nam, ⟨ia, il, ic⟩, out, ⟨ao, al, cap⟩⟩) (NB.out w5 (grown_refl _))
  go_region_held3 (fun w' => w'.cell? ⟨w2.heap.size, 0, none⟩ = some (.string op) ∧ w'.cell? ⟨w2.heap.size, 1, none⟩ = some (.string nam) ∧ w'.cell? ⟨w2.heap.size, 2, none⟩ = some (.slice iv.a iv.n iv.c) ∧ w'.cell? ⟨w2.heap.size, 3, none⟩ = some (.string out) ∧ w'.cell? ⟨w2.heap.size, 4, none⟩ = some (.slice av.a av.n av.c) ∧ w'.cell? ⟨w.heap.size, 0, none⟩ = some (.string op) ∧ w'.cell? ⟨w.heap.size, 1, none⟩ = some (.string nam) ∧ w'.cell? ⟨w.heap.size, 2, none⟩ = some (.slice ia il ic) ∧ w'.cell? ⟨w.heap.size, 3, none⟩ = some (.string out) ∧ w'.cell? ⟨w.heap.size, 4, none⟩ = some (.slice ao al cap)) (go_keep) (first | (go_at_call 12; with_reducible refine (CK.out _ (by first | exact gd | exact GB)).mono ?_; rintro e vA ⟨rfl, hgA⟩; have GA : w5.grownBy vA none := (by first | exact grown_trans gd hgA | exact grown_trans GB hgA); obtain ⟨m0, m1, m2, m3, m4⟩ := nod_cells (n := ⟨op, nam, iv, out, av⟩) (MB.out vA GA); obtain ⟨n0, n1, n2, n3, n4⟩ := nod_cells (n := ⟨op, nam, ⟨ia, il, ic⟩, out, ⟨ao, al, cap⟩⟩) (NB.out vA GA)) | (go_at_call 13; with_reducible refine (RK.out _ (by first | exact gd | exact GA)).mono ?_; rintro e vB ⟨rfl, hgB⟩; have GB : w5.grownBy vB none := (by first | exact grown_trans gd hgB | exact grown_trans GA hgB); obtain ⟨m0, m1, m2, m3, m4⟩ := nod_cells (n := ⟨op, nam, iv, out, av⟩) (MB.out vB GB); obtain ⟨n0, n1, n2, n3, n4⟩ := nod_cells (n := ⟨op, nam, ⟨ia, il, ic⟩, out, ⟨ao, al, cap⟩⟩) (NB.out vB GB)) | (go_at_call 14; with_reducible refine (SM.out _ (by first | exact GA | exact GB)).mono ?_; rintro e vC ⟨rfl, hgC⟩; have GC : w5.grownBy vC none := (by first | exact grown_trans GA hgC | exact grown_trans GB hgC); obtain ⟨m0, m1, m2, m3, m4⟩ := nod_cells (n := ⟨op, nam, iv, out, av⟩) (MB.out vC GC); obtain ⟨n0, n1, n2, n3, n4⟩ := nod_cells (n := ⟨op, nam, ⟨ia, il, ic⟩, out, ⟨ao, al, cap⟩⟩) (NB.out vC GC)) | (go_at_call 15; with_reducible refine (SN.out _ (by first | exact GC)).mono ?_; rintro e vD ⟨rfl, hgD⟩; have GD : w5.grownBy vD none := (by first | exact grown_trans GC hgD); obtain ⟨m0, m1, m2, m3, m4⟩ := nod_cells (n := ⟨op, nam, iv, out, av⟩) (MB.out vD GD); obtain ⟨n0, n1, n2, n3, n4⟩ := nod_cells (n := ⟨op, nam, ⟨ia, il, ic⟩, out, ⟨ao, al, cap⟩⟩) (NB.out vD GD)) | (go_at_call 16; with_reducible refine (LV.out _ (by first | exact GD)).mono ?_; rintro e vE ⟨rfl, hgE⟩; have GE : w5.grownBy vE none := (by first | exact grown_trans GD hgE); obtain ⟨m0, m1, m2, m3, m4⟩ := nod_cells (n := ⟨op, nam, iv, out, av⟩) (MB.out vE GE); obtain ⟨n0, n1, n2, n3, n4⟩ := nod_cells (n := ⟨op, nam, ⟨ia, il, ic⟩, out, ⟨ao, al, cap⟩⟩) (NB.out vE GE)))
  all_goals
    go_wp2
    go_ret
    exact ⟨rfl, grown_below (grown_trans g5 GE)⟩
end Go.Proofs.YtlmaobkfmplalaaDoor
