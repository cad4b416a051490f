/- The document's answer to an attribute's value, by the walk (mkRReads.py). -/
import Derived.Test.YtlmaobkfmplalaaDoorNRFind
namespace Go.Proofs.YtlmaobkfmplalaaDoor
open Go.RowKit

set_option maxRecDepth 100000 in
set_option maxHeartbeats 3200000 in
theorem rints_any (n : Nod) (xs : List Atr) (cs : List Cont) (nm : ByteArray) (other : Sl) (zs : List Int) (w : World) (hv : IsAttrs w n.av.v xs) (hc : ∀ (j : Nat) (a : Atr), xs[j]? = some a → ∃ c, cs[j]? = some c ∧ Has w a c) (ho : IsInts w other.v zs) :
    Calls Tryd.prog 18 #[nval n, .string nm, .slice other.a other.n other.c] w fun e w' => ∃ u : Sl, e = .returned u.v ∧ OwnsL 2 1 icell w' w.heap.size u.v (intsV xs cs nm zs) ∧ w.grownBy w' none := by
  have FN := hide (fun (wx : World) (hg : w.grownBy wx none) => rfind_any n xs nm 7 wx (hv.more hg))
  obtain ⟨A, bA, cA, hA1, hA2, hA3, hA4⟩ := found_of (nm := nm) (kd := 7) hc
  rw [hA1, hA2] at FN
  have HA3 := hide hA3
  have HA4 := hide hA4
  clear hA1 hA2 hA3 hA4 hc
  have HO := hide ho
  have HA5 : Hid ((bA = true → intsV xs cs nm zs = cA.i) ∧ (bA = false → intsV xs cs nm zs = zs)) := ⟨fun h => by unfold intsV; rw [(HA4.out.1 h).2], fun h => by unfold intsV; rw [(HA4.out.2 h).2]⟩
  clear HA4 ho
  obtain ⟨i0, hi, hz0, hz1, hz2⟩ := info_parts infoI64
  obtain ⟨op, nam, ⟨ia, il, ic⟩, out, ⟨ao, al, cap⟩⟩ := n
  unfold nval at FN ⊢
  unfold aval at FN
  simp only at FN ⊢
  clear hv
  obtain ⟨w0, hw0⟩ : ∃ w0, w0 = w.alloc (.cells #[.string op, .string nam, .slice ia il ic, .string out, .slice ao al cap] 25) := ⟨_, rfl⟩
  have g0 : w.grownBy w0 none := by rw [hw0]; exact grown_new _ _
  have hb0 := heap_alloc_new w (.cells #[.string op, .string nam, .slice ia il ic, .string out, .slice ao al cap] 25)
  obtain ⟨n0, n1, n2, n3, n4⟩ := nod_cells (n := ⟨op, nam, ⟨ia, il, ic⟩, out, ⟨ao, al, cap⟩⟩) hb0
  go_enter Tryd.func18, Tryd.ntmps18
  go_wp2_with fail
  rw [← hw0]
  clear hw0 n0 n1 n2 n3 n4 hb0
  refine (FN.out w0 g0).mono ?_
  rintro e w1 ⟨rfl, hg1⟩
  have g1 := grown_trans (grown_trans g0 hg1) (grown_new w1 (.cells #[.string A.name, .int .i64 A.kind, .int .i64 A.f, .int .i64 A.i, .string A.s, .int .i64 A.ty, .slice A.dv.a A.dv.n A.dv.c, .slice A.tv.a A.tv.n A.tv.c, .slice A.iv.a A.iv.n A.iv.c] 45))
  have bA1 := heap_alloc_new w1 (.cells #[.string A.name, .int .i64 A.kind, .int .i64 A.f, .int .i64 A.i, .string A.s, .int .i64 A.ty, .slice A.dv.a A.dv.n A.dv.c, .slice A.tv.a A.tv.n A.tv.c, .slice A.iv.a A.iv.n A.iv.c] 45)
  obtain ⟨c0, c1, c2, c3, c4, c5, c6, c7, c8⟩ := atr_cells (a := A) bA1
  have HG := hide g1
  clear bA1 g1
  cases bA with
  | true =>
    have E : Hid (intsV xs cs nm zs = cA.i) := HA5.out.1 rfl
    have HI : Hid (IsInts (w1.alloc (.cells #[.string A.name, .int .i64 A.kind, .int .i64 A.f, .int .i64 A.i, .string A.s, .int .i64 A.ty, .slice A.dv.a A.dv.n A.dv.c, .slice A.tv.a A.tv.n A.tv.c, .slice A.iv.a A.iv.n A.iv.c] 45)) A.iv.v cA.i) := (HA3.out rfl).i.more HG.out
    have HL := hide (isL_ints HI.out)
    go_wp2_with (at_builtin; refine wpl_fresh rfl (.tmp 17) (.tmp 19) 35 2 1 8 (.int .i64 0) i0 icell rfl Tryd.underlying35 hi hz0 hz1 hz2 rfl (by decide) rfl _ _ rfl HL.out icell_len icell_one ?_; intro v' w3 hown hgrow)
    have HO3 := hide hown
    obtain ⟨xa, xc, rfl⟩ := OwnsL.form hown
    clear hown
    go_ret
    exact ⟨⟨xa, _, xc⟩, rfl, by rw [E.out]; exact HO3.out.base_le HG.out.size, grown_trans HG.out hgrow⟩
  | false =>
    have E : Hid (intsV xs cs nm zs = zs) := HA5.out.2 rfl
    have HI : Hid (IsInts (w1.alloc (.cells #[.string A.name, .int .i64 A.kind, .int .i64 A.f, .int .i64 A.i, .string A.s, .int .i64 A.ty, .slice A.dv.a A.dv.n A.dv.c, .slice A.tv.a A.tv.n A.tv.c, .slice A.iv.a A.iv.n A.iv.c] 45)) other.v zs) := HO.out.more HG.out
    have HL := hide (isL_ints HI.out)
    go_wp2_with (at_builtin; refine wpl_fresh rfl (.tmp 21) (.tmp 22) 35 2 1 8 (.int .i64 0) i0 icell rfl Tryd.underlying35 hi hz0 hz1 hz2 rfl (by decide) rfl _ _ rfl HL.out icell_len icell_one ?_; intro v' w3 hown hgrow)
    have HO3 := hide hown
    obtain ⟨xa, xc, rfl⟩ := OwnsL.form hown
    clear hown
    go_ret
    exact ⟨⟨xa, _, xc⟩, rfl, by rw [E.out]; exact HO3.out.base_le HG.out.size, grown_trans HG.out hgrow⟩

set_option maxRecDepth 100000 in
set_option maxHeartbeats 3200000 in
theorem rint_any (n : Nod) (xs : List Atr) (cs : List Cont) (nm : ByteArray) (z : Int) (w : World) (hv : IsAttrs w n.av.v xs) (hc : ∀ (j : Nat) (a : Atr), xs[j]? = some a → ∃ c, cs[j]? = some c ∧ Has w a c) :
    Calls Tryd.prog 20 #[nval n, .string nm, .int .i64 z] w fun e w' => e = .returned (.int .i64 (intV xs nm z)) ∧ w.grownBy w' none := by
  have FN := hide (fun (wx : World) (hg : w.grownBy wx none) => rfind_any n xs nm 2 wx (hv.more hg))
  obtain ⟨A, bA, cA, hA1, hA2, hA3, hA4⟩ := found_of (nm := nm) (kd := 2) hc
  rw [hA1, hA2] at FN
  have HA3 := hide hA3
  have HA4 := hide hA4
  clear hA1 hA2 hA3 hA4 hc
  have HA5 : Hid ((bA = true → intV xs nm z = A.i) ∧ (bA = false → intV xs nm z = z)) := ⟨fun h => by unfold intV; rw [(HA4.out.1 h).1], fun h => by unfold intV; rw [(HA4.out.2 h).1]⟩
  clear HA3 HA4
  obtain ⟨op, nam, ⟨ia, il, ic⟩, out, ⟨ao, al, cap⟩⟩ := n
  unfold nval at FN ⊢
  unfold aval at FN
  simp only at FN ⊢
  clear hv
  obtain ⟨w0, hw0⟩ : ∃ w0, w0 = w.alloc (.cells #[.string op, .string nam, .slice ia il ic, .string out, .slice ao al cap] 25) := ⟨_, rfl⟩
  have g0 : w.grownBy w0 none := by rw [hw0]; exact grown_new _ _
  have hb0 := heap_alloc_new w (.cells #[.string op, .string nam, .slice ia il ic, .string out, .slice ao al cap] 25)
  obtain ⟨n0, n1, n2, n3, n4⟩ := nod_cells (n := ⟨op, nam, ⟨ia, il, ic⟩, out, ⟨ao, al, cap⟩⟩) hb0
  go_enter Tryd.func20, Tryd.ntmps20
  go_wp2_with fail
  rw [← hw0]
  clear hw0 n0 n1 n2 n3 n4 hb0
  refine (FN.out w0 g0).mono ?_
  rintro e w1 ⟨rfl, hg1⟩
  have g1 := grown_trans (grown_trans g0 hg1) (grown_new w1 (.cells #[.string A.name, .int .i64 A.kind, .int .i64 A.f, .int .i64 A.i, .string A.s, .int .i64 A.ty, .slice A.dv.a A.dv.n A.dv.c, .slice A.tv.a A.tv.n A.tv.c, .slice A.iv.a A.iv.n A.iv.c] 45))
  have bA1 := heap_alloc_new w1 (.cells #[.string A.name, .int .i64 A.kind, .int .i64 A.f, .int .i64 A.i, .string A.s, .int .i64 A.ty, .slice A.dv.a A.dv.n A.dv.c, .slice A.tv.a A.tv.n A.tv.c, .slice A.iv.a A.iv.n A.iv.c] 45)
  obtain ⟨c0, c1, c2, c3, c4, c5, c6, c7, c8⟩ := atr_cells (a := A) bA1
  have HG := hide g1
  clear bA1 g1
  cases bA with
  | true =>
    have E : Hid (intV xs nm z = A.i) := HA5.out.1 rfl
    go_wp2
    go_ret
    exact ⟨by rw [E.out]; rfl, HG.out⟩
  | false =>
    have E : Hid (intV xs nm z = z) := HA5.out.2 rfl
    go_wp2
    go_ret
    exact ⟨by rw [E.out]; rfl, HG.out⟩

set_option maxRecDepth 100000 in
set_option maxHeartbeats 3200000 in
theorem rbits_any (n : Nod) (xs : List Atr) (cs : List Cont) (nm : ByteArray) (z : Int) (w : World) (hv : IsAttrs w n.av.v xs) (hc : ∀ (j : Nat) (a : Atr), xs[j]? = some a → ∃ c, cs[j]? = some c ∧ Has w a c) :
    Calls Tryd.prog 22 #[nval n, .string nm, .int .i64 z] w fun e w' => e = .returned (.int .i64 (bitsV xs nm z)) ∧ w.grownBy w' none := by
  have FN := hide (fun (wx : World) (hg : w.grownBy wx none) => rfind_any n xs nm 1 wx (hv.more hg))
  obtain ⟨A, bA, cA, hA1, hA2, hA3, hA4⟩ := found_of (nm := nm) (kd := 1) hc
  rw [hA1, hA2] at FN
  have HA3 := hide hA3
  have HA4 := hide hA4
  clear hA1 hA2 hA3 hA4 hc
  have HA5 : Hid ((bA = true → bitsV xs nm z = A.f) ∧ (bA = false → bitsV xs nm z = z)) := ⟨fun h => by unfold bitsV; rw [(HA4.out.1 h).1], fun h => by unfold bitsV; rw [(HA4.out.2 h).1]⟩
  clear HA3 HA4
  obtain ⟨op, nam, ⟨ia, il, ic⟩, out, ⟨ao, al, cap⟩⟩ := n
  unfold nval at FN ⊢
  unfold aval at FN
  simp only at FN ⊢
  clear hv
  obtain ⟨w0, hw0⟩ : ∃ w0, w0 = w.alloc (.cells #[.string op, .string nam, .slice ia il ic, .string out, .slice ao al cap] 25) := ⟨_, rfl⟩
  have g0 : w.grownBy w0 none := by rw [hw0]; exact grown_new _ _
  have hb0 := heap_alloc_new w (.cells #[.string op, .string nam, .slice ia il ic, .string out, .slice ao al cap] 25)
  obtain ⟨n0, n1, n2, n3, n4⟩ := nod_cells (n := ⟨op, nam, ⟨ia, il, ic⟩, out, ⟨ao, al, cap⟩⟩) hb0
  go_enter Tryd.func22, Tryd.ntmps22
  go_wp2_with fail
  rw [← hw0]
  clear hw0 n0 n1 n2 n3 n4 hb0
  refine (FN.out w0 g0).mono ?_
  rintro e w1 ⟨rfl, hg1⟩
  have g1 := grown_trans (grown_trans g0 hg1) (grown_new w1 (.cells #[.string A.name, .int .i64 A.kind, .int .i64 A.f, .int .i64 A.i, .string A.s, .int .i64 A.ty, .slice A.dv.a A.dv.n A.dv.c, .slice A.tv.a A.tv.n A.tv.c, .slice A.iv.a A.iv.n A.iv.c] 45))
  have bA1 := heap_alloc_new w1 (.cells #[.string A.name, .int .i64 A.kind, .int .i64 A.f, .int .i64 A.i, .string A.s, .int .i64 A.ty, .slice A.dv.a A.dv.n A.dv.c, .slice A.tv.a A.tv.n A.tv.c, .slice A.iv.a A.iv.n A.iv.c] 45)
  obtain ⟨c0, c1, c2, c3, c4, c5, c6, c7, c8⟩ := atr_cells (a := A) bA1
  have HG := hide g1
  clear bA1 g1
  cases bA with
  | true =>
    have E : Hid (bitsV xs nm z = A.f) := HA5.out.1 rfl
    go_wp2
    go_ret
    exact ⟨by rw [E.out]; rfl, HG.out⟩
  | false =>
    have E : Hid (bitsV xs nm z = z) := HA5.out.2 rfl
    go_wp2
    go_ret
    exact ⟨by rw [E.out]; rfl, HG.out⟩
end Go.Proofs.YtlmaobkfmplalaaDoor
