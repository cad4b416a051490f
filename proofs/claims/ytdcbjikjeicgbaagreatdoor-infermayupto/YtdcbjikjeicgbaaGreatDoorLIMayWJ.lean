/- What a node makes is a value that may be: the law, by the walk. -/
import Derived.Test.YtdcbjikjeicgbaaGreatDoorPartU
import Derived.Test.YtdcbjikjeicgbaaGreatDoorNRNumJ
namespace Go.Proofs.YtdcbjikjeicgbaaGreatDoor
open Go.RowKit

set_option maxRecDepth 100000 in
set_option maxHeartbeats 6400000 in
theorem imay_walk (n : Nod) (ins : List ByteArray) (A : At) (u : Sl) (vs : List (Val × List Int)) (w : World) (hl : Laid w) (hn : NodeAll w n ins A) (_hf : A.xs.length ≤ 1048576) (_hi : ins.length ≤ 1048576) (hv : ValsIn w u.v vs) (_hvl : vs.length ≤ 1048576) :
    Calls Tryz.prog 6 #[nval n, .slice u.a u.n u.c] w fun e w' => e = .returned (.bool true) ∧ Below w.heap.size w w' := by
  have HL := hide hl
  have HN := hide hn
  have HV := hide hv
  have OO := hide (fun (wx : World) (hx : w.grownBy wx none) => out_of n ins A u vs wx (hl.more hx) (hn.more hx) (hv.more hx))
  have LV := hide (fun (wx : World) (hx : w.grownBy wx none) => ilive_any wx (hl.more hx))
  clear hl hn hv
  obtain ⟨w0, hw0⟩ : ∃ w0, w0 = w.alloc (.cells #[.string n.op, .string n.name, .slice n.iv.a n.iv.n n.iv.c, .string n.out, .slice n.av.a n.av.n n.av.c] 25) := ⟨_, rfl⟩
  have g0 : Hid (w.grownBy w0 none) := by show w.grownBy w0 none; rw [hw0]; exact grown_new _ _
  have hb0 := heap_alloc_new w (.cells #[.string n.op, .string n.name, .slice n.iv.a n.iv.n n.iv.c, .string n.out, .slice n.av.a n.av.n n.av.c] 25)
  rw [← hw0] at hb0
  have BX : Hid (∀ wx, w0.grownBy wx none → wx.heap[w.heap.size]? = some (.cells #[.string n.op, .string n.name, .slice n.iv.a n.iv.n n.iv.c, .string n.out, .slice n.av.a n.av.n n.av.c] 25 (0, 0))) := fun wx hg => box_kept hb0 hg
  clear hb0
  have O1 := hide (OO.out w0 g0.out)
  cases hR : outF n ins A vs with
  | error c =>
    have hc := outF_err hR
    rw [hR] at O1
    have bc : (c != 0) = true := by simpa using hc
    clear hR hc OO HN HV BX
    obtain ⟨op, nam, ⟨ia, il, ic⟩, out, ⟨ao, al, cap⟩⟩ := n
    obtain ⟨ua, un, uc⟩ := u
    unfold nval at O1 ⊢
    simp only at O1 hw0 ⊢
    go_enter Tryz.func6, Tryz.ntmps6
    go_wp2_with fail
    rw [← hw0]
    clear hw0
    refine O1.out.mono ?_
    rintro e w1 ⟨hg1, rfl⟩
    have B2 := heap_alloc_new w1 (.cells #[.string ⟨#[]⟩, .int .i64 0, .slice none 0 0] 31)
    have c0 := (cell_of_row _ _ 0 _ _ (0, 0) B2).trans rfl
    have c1 := (cell_of_row _ _ 1 _ _ (0, 0) B2).trans rfl
    have c2 := (cell_of_row _ _ 2 _ _ (0, 0) B2).trans rfl
    have G2 := hide (grown_trans (grown_trans g0.out hg1) (grown_new w1 (.cells #[.string ⟨#[]⟩, .int .i64 0, .slice none 0 0] 31)))
    clear B2 hg1
    go_wp2_with fail
    refine (LV.out _ G2.out).mono ?_
    rintro e w3 ⟨rfl, hg3⟩
    go_wp2
    go_ret
    exact ⟨rfl, grown_below (grown_trans G2.out hg3)⟩
  | ok r =>
    have OK := outF_ok hR
    have TT : Hid (chk r.1 0 = true) := by show chk r.1 0 = true; rw [chk_zero]; exact OK.typed HN.out HV.out
    have CC := hide OK.cnt
    rw [hR] at O1
    clear hR OK OO HN HV
    obtain ⟨t, d⟩ := r
    obtain ⟨op, nam, ⟨ia, il, ic⟩, out, ⟨ao, al, cap⟩⟩ := n
    obtain ⟨ua, un, uc⟩ := u
    unfold nval at O1 ⊢
    simp only at O1 BX TT CC hw0 ⊢
    go_enter Tryz.func6, Tryz.ntmps6
    go_wp2_with fail
    rw [← hw0]
    clear hw0
    refine O1.out.mono ?_
    rintro e w1 ⟨hg1, ⟨sa, sn, sc⟩, rfl, ho⟩
    simp only at ho ⊢
    have B2 := heap_alloc_new w1 (.cells #[.string out, .int .i64 t, .slice sa sn sc] 31)
    have c0 := (cell_of_row _ _ 0 _ _ (0, 0) B2).trans rfl
    have c1 := (cell_of_row _ _ 1 _ _ (0, 0) B2).trans rfl
    have c2 := (cell_of_row _ _ 2 _ _ (0, 0) B2).trans rfl
    have G20 := hide (grown_trans hg1 (grown_new w1 (.cells #[.string out, .int .i64 t, .slice sa sn sc] 31)))
    have G2 := hide (grown_trans g0.out G20.out)
    have CO := hide (refcount_any _ d (w1.alloc (.cells #[.string out, .int .i64 t, .slice sa sn sc] 31)) (ho.ints.more (grown_new _ _)))
    rw [CC.out] at CO
    have TY := hide (rtyped_any t (w1.alloc (.cells #[.string out, .int .i64 t, .slice sa sn sc] 31)))
    rw [TT.out] at TY
    obtain ⟨n0, n1, n2, n3, n4⟩ := nod_cells (n := ⟨op, nam, ⟨ia, il, ic⟩, out, ⟨ao, al, cap⟩⟩) (BX.out _ G20.out)
    have bo : (out.toList == out.toList) = true := by simp
    clear B2 hg1 ho
    simp only [Sl.v] at CO
    go_wp2_with (first | (go_at_call 21; refine CO.out.mono ?_; rintro e w' ⟨rfl, rfl⟩) | (go_at_call 22; refine TY.out.mono ?_; rintro e w' ⟨rfl, rfl⟩) | fail)
    refine (LV.out _ G2.out).mono ?_
    rintro e w3 ⟨rfl, hg3⟩
    go_wp2
    go_ret
    exact ⟨rfl, grown_below (grown_trans G2.out hg3)⟩
end Go.Proofs.YtdcbjikjeicgbaaGreatDoor
