/- Joined texts: NReads, IPure, IHelp. -/
import Derived.Test.YtaoplfpigjkgpaaGreatDoorPartAU
import Derived.Test.YtaoplfpigjkgpaaGreatDoorPartAB
import Derived.Test.YtaoplfpigjkgpaaGreatDoorPartAD
import Derived.WalkLawsBesides
namespace Go.Proofs.YtaoplfpigjkgpaaGreatDoor

open Go.RowKit

def intsV (xs : List Atr) (cs : List Cont) (nm : ByteArray) (zs : List Int) : List Int := match (xs.zip cs).find? (fun p => isA nm 7 p.1) with
  | some p => p.2.i
  | none => zs

def intV (xs : List Atr) (nm : ByteArray) (z : Int) : Int := match xs.find? (isA nm 2) with
  | some a => a.i
  | none => z

def bitsV (xs : List Atr) (nm : ByteArray) (z : Int) : Int := match xs.find? (isA nm 1) with
  | some a => a.f
  | none => z

theorem found_of {w : World} {xs : List Atr} {cs : List Cont} {nm : ByteArray} {kd : Int} (hc : ∀ (j : Nat) (a : Atr), xs[j]? = some a → ∃ c, cs[j]? = some c ∧ Has w a c) :
    ∃ (A : Atr) (b : Bool) (c : Cont), (xs.find? (isA nm kd)).getD noAtr = A ∧ (xs.find? (isA nm kd)).isSome = b ∧ (b = true → Has w A c) ∧ ((b = true → xs.find? (isA nm kd) = some A ∧ (xs.zip cs).find? (fun p => isA nm kd p.1) = some (A, c)) ∧ (b = false → xs.find? (isA nm kd) = none ∧ (xs.zip cs).find? (fun p => isA nm kd p.1) = none)) := by
  rcases find_zip (P := isA nm kd) hc with ⟨e1, e2⟩ | ⟨a, c, e1, e2, e3⟩
  · exact ⟨noAtr, false, ⟨[], [], []⟩, by rw [e1]; rfl, by rw [e1]; rfl, (fun h => by cases h), (fun h => by cases h), fun _ => ⟨e1, e2⟩⟩
  · exact ⟨a, true, c, by rw [e1]; rfl, by rw [e1]; rfl, (fun _ => e3), (fun _ => ⟨e1, e2⟩), (fun h => by cases h)⟩

theorem owns_empty (w : World) (te : TypeId) : OwnsL te 1 icell (w.alloc (.cells #[] te)) w.heap.size (.slice (some ⟨w.heap.size, 0, none⟩) 0 0) [] :=
  ⟨rfl, .inr ⟨w.heap.size, 0, #[], rfl, Nat.le_refl _, heap_alloc_new w _, Nat.le_refl _, by simp [maxLen], rfl, rfl⟩⟩

theorem eql_nil (w : World) (a : Option Addr) (l c : Nat) : (binOp .eql 30 (.slice a l c) (.slice none 0 0)).run Tryz.prog w = .ok (.bool a.isNone) w := by
  cases a <;> kernel_rfl

set_option maxRecDepth 100000 in
theorem clone_any (v : Value) (zs : List Int) (w : World) (h : IsInts w v zs) :
    Calls Tryz.prog 80 #[v] w fun e w' => ∃ u : Sl, e = .returned u.v ∧ OwnsL 2 1 icell w' w.heap.size u.v zs ∧ w.grownBy w' none := by
  obtain ⟨i0, hi, hz0, hz1, hz2⟩ := info_parts infoI64
  have H := hide (isL_ints h)
  obtain ⟨ao, cap, rfl, h1, h2, h3, h4, h5, h6⟩ := h
  cases ao with
  | none =>
    obtain ⟨rfl, rfl⟩ := h4 rfl
    have q := eql_nil w none 0 0
    go_enter Tryz.func80, Tryz.ntmps80
    go_wp2
    go_ret
    exact ⟨⟨none, 0, 0⟩, rfl, OwnsL.nil .., grown_refl _⟩
  | some ad =>
    clear h4 h6
    have H5 := hide h5
    clear h5
    have hnews : Hid (∀ o, ∀ j u, (zs.map (Value.int .i64))[j]? = some u → (w.alloc o).cell? (ad.add j) = some u) := by
      intro o j u hu
      have hj : j < zs.length := by have := (List.getElem?_eq_some_iff.1 hu).1; simpa using this
      obtain ⟨b, off, e, hc⟩ := H5.out (by omega)
      obtain rfl := Option.some.inj e
      rw [Addr.add_lit]
      refine cell_still ?_ (grown_new w o)
      rw [hc j hj]
      rw [List.getElem?_map, List.getElem?_eq_getElem hj] at hu
      simpa [List.getD, hj] using hu
    have q := eql_nil w (some ad) zs.length cap
    have OE := hide (owns_empty w 2)
    go_enter Tryz.func80, Tryz.ntmps80
    go_wp2_with (at_builtin; refine wpList_append_own _ rfl (.tmp 5) (.tmp 6) 30 rfl w.heap.size 2 i0 (.int .i64 0) 1 8 Tryz.underlying30 hi hz0 hz1 hz2 rfl (by decide) (.slice (some ⟨w.heap.size, 0, none⟩) 0 0) 0 [] rfl (by exact OE.out) ad zs.length cap (zs.map (Value.int .i64)) rfl (by simp) (by exact hnews.out _) (by intro u hu; obtain ⟨z, -, rfl⟩ := List.mem_map.1 hu; rfl) (by simp only [maxLen]; omega) (by omega) (by simp) ?_; intro v' w1 hown hgrow _)
    have o2 : OwnsL 2 1 icell w1 w.heap.size v' zs := by
      unfold OwnsL
      rw [icells]
      simpa using hown
    have HO := hide o2
    obtain ⟨xa, xc, rfl⟩ := OwnsL.form o2
    have HG : Hid (w.grownBy w1 none) := grown_trans_row (grown_new w (.cells #[] 2)) hgrow (fun r e => by have h : w.heap.size = r := Option.some.inj e; omega)
    clear o2 hown hgrow
    go_ret
    exact ⟨⟨xa, zs.length, xc⟩, rfl, HO.out, HG.out⟩

set_option maxRecDepth 100000 in
set_option maxHeartbeats 6400000 in
theorem sints_any (n : Nod) (xs : List Atr) (cs : List Cont) (nm : ByteArray) (other : Sl) (zs : List Int) (w : World) (hv : IsAttrs w n.av.v xs) (hc : ∀ (j : Nat) (a : Atr), xs[j]? = some a → ∃ c, cs[j]? = some c ∧ Has w a c) (ho : IsInts w other.v zs) :
    Calls Tryz.prog 51 #[nval n, .string nm, .slice other.a other.n other.c] w fun e w' => ∃ u : Sl, e = .returned u.v ∧ OwnsL 2 1 icell w' w.heap.size u.v (intsV xs cs nm zs) ∧ w.grownBy w' none := by
  have FN := hide (fun (p q : Nat) (wx : World) (hg : w.grownBy wx none) (hp : wx.heap[p]? = some (.cells #[.string nm] 9 (0, 0))) (hq : wx.heap[q]? = some (.cells #[.int .i64 7] 3 (0, 0))) => first_named n xs p q nm 7 wx (hv.more hg) hp hq)
  obtain ⟨A, bA, cA, hA1, hA2, hA3, hA4⟩ := found_of (nm := nm) (kd := 7) hc
  rw [hA1, hA2] at FN
  have HA3 := hide hA3
  have HA4 := hide hA4
  clear hA1 hA2 hA3 hA4 hc
  have HO := hide ho
  have HA5 : Hid ((bA = true → intsV xs cs nm zs = cA.i) ∧ (bA = false → intsV xs cs nm zs = zs)) := ⟨fun h => by unfold intsV; rw [(HA4.out.1 h).2], fun h => by unfold intsV; rw [(HA4.out.2 h).2]⟩
  clear HA4 ho
  obtain ⟨op, nam, ⟨ia, il, ic⟩, out, ⟨ao, al, cap⟩⟩ := n
  unfold nval at FN ⊢
  unfold aval at FN
  simp only at FN ⊢
  clear hv
  obtain ⟨w0, hw0⟩ : ∃ w0, w0 = w.alloc (.cells #[.string op, .string nam, .slice ia il ic, .string out, .slice ao al cap] 25) := ⟨_, rfl⟩
  have g0 : w.grownBy w0 none := by rw [hw0]; exact grown_new _ _
  have hb0 := heap_alloc_new w (.cells #[.string op, .string nam, .slice ia il ic, .string out, .slice ao al cap] 25)
  rw [← hw0] at hb0
  have HZ0 : Hid (w0.heap.size = w.heap.size + 1) := by rw [hw0]; simp [Hid]
  have BX : Hid (∀ wx, w0.grownBy wx none → wx.heap[w.heap.size]? = some (.cells #[.string op, .string nam, .slice ia il ic, .string out, .slice ao al cap] 25 (0, 0))) := fun wx hg => box_kept hb0 hg
  clear hb0
  go_enter Tryz.func51, Tryz.ntmps51
  go_wp2_with fail
  rw [← hw0]
  clear hw0
  go_cut [7, 8] from 9 to 15 (fun p b wx => ∃ N : Nat, p = .pointer (some ⟨N, 0, none⟩) ∧ b = .bool bA ∧ wx.heap[N]? = some (.cells #[.string A.name, .int .i64 A.kind, .int .i64 A.f, .int .i64 A.i, .string A.s, .int .i64 A.ty, .slice A.dv.a A.dv.n A.dv.c, .slice A.tv.a A.tv.n A.tv.c, .slice A.iv.a A.iv.n A.iv.c] 41 (0, 0)) ∧ w.grownBy wx none)
  case first =>
    obtain ⟨n0, n1, n2, n3, n4⟩ := nod_cells (n := ⟨op, nam, ⟨ia, il, ic⟩, out, ⟨ao, al, cap⟩⟩) (BX.out w0 (grown_refl _))
    have gd := grown_drew (grown_refl w0)
    go_region_held3 (fun w' => w'.cell? ⟨w.heap.size, 0, none⟩ = some (.string op) ∧ w'.cell? ⟨w.heap.size, 1, none⟩ = some (.string nam) ∧ w'.cell? ⟨w.heap.size, 2, none⟩ = some (.slice ia il ic) ∧ w'.cell? ⟨w.heap.size, 3, none⟩ = some (.string out) ∧ w'.cell? ⟨w.heap.size, 4, none⟩ = some (.slice ao al cap)) (go_keep) (first | (go_at_call 79; refine (named_any _ _ _).mono ?_; rintro e w1 ⟨rfl, hp1, hq1, hg1⟩; have g01 : w0.grownBy w1 none := (by first | exact grown_trans gd hg1 | exact grown_trans (grown_trans gd (grown_new _ _)) hg1); obtain ⟨n0, n1, n2, n3, n4⟩ := nod_cells (n := ⟨op, nam, ⟨ia, il, ic⟩, out, ⟨ao, al, cap⟩⟩) (BX.out w1 g01); have hz1 : w.heap.size ≠ w1.heap.size := (by have := g01.size; have := HZ0.out; omega); have hzz : w.heap.size ≠ w0.heap.size := (by have := HZ0.out; omega); have hz1' := hz1.symm; have hzz' := hzz.symm; try (have hp2 : w1.heap[w0.heap.size + 1]? = some (.cells #[.string nm] 9 (0, 0)) := (by have h := hp1; rw [show ((w0.alloc (.cells #[.string ⟨#[]⟩, .int .i64 0, .int .i64 0, .int .i64 0, .string ⟨#[]⟩, .int .i64 0, .slice none 0 0, .slice none 0 0, .slice none 0 0] 41)).drew).heap.size = w0.heap.size + 1 by simp] at h; exact h)); try (have hq2 : w1.heap[w0.heap.size + 1 + 1]? = some (.cells #[.int .i64 7] 3 (0, 0)) := (by have h := hq1; rw [show ((w0.alloc (.cells #[.string ⟨#[]⟩, .int .i64 0, .int .i64 0, .int .i64 0, .string ⟨#[]⟩, .int .i64 0, .slice none 0 0, .slice none 0 0, .slice none 0 0] 41)).drew).heap.size = w0.heap.size + 1 by simp] at h; exact h)); try (have kz : w1.heap[w0.heap.size]? = some (.cells #[.string ⟨#[]⟩, .int .i64 0, .int .i64 0, .int .i64 0, .string ⟨#[]⟩, .int .i64 0, .slice none 0 0, .slice none 0 0, .slice none 0 0] 41 (0, 0)) := box_kept (show ((w0.alloc (.cells #[.string ⟨#[]⟩, .int .i64 0, .int .i64 0, .int .i64 0, .string ⟨#[]⟩, .int .i64 0, .slice none 0 0, .slice none 0 0, .slice none 0 0] 41)).drew).heap[w0.heap.size]? = _ from heap_alloc_new w0 _) hg1)) | (go_at_call 78; refine (FN.out _ _ _ (by first | exact grown_trans g0 g01 | exact grown_trans (grown_trans g0 g01) (grown_new _ _)) (by first | exact hp1 | exact hp2 | exact box_kept hp1 (grown_new _ _)) (by first | exact hq1 | exact hq2 | exact box_kept hq1 (grown_new _ _))).mono ?_; rintro e w2 ⟨rfl, hg2⟩; have g02 : w0.grownBy w2 none := (by first | exact grown_trans g01 hg2 | exact grown_trans (grown_trans g01 (grown_new _ _)) hg2); obtain ⟨n0, n1, n2, n3, n4⟩ := nod_cells (n := ⟨op, nam, ⟨ia, il, ic⟩, out, ⟨ao, al, cap⟩⟩) (BX.out w2 g02); try (first | have kz2 := box_kept kz hg2 | have kz2 : w2.heap[w1.heap.size]? = some (.cells #[.string ⟨#[]⟩, .int .i64 0, .int .i64 0, .int .i64 0, .string ⟨#[]⟩, .int .i64 0, .slice none 0 0, .slice none 0 0, .slice none 0 0] 41 (0, 0)) := box_kept (heap_alloc_new w1 _) hg2); try (obtain ⟨f0, f1, f2, f3, f4, f5, f6, f7, f8⟩ := atr_frozen kz2); try (obtain ⟨k0, k1, k2, k3, k4, k5, k6, k7, k8⟩ := atr_cells (a := noAtr) kz2)))
    · have GG := hide (grown_trans g0 g02)
      go_wp2_with fail
      go_meet
      exact ⟨_, rfl, rfl, heap_alloc_new w2 _, grown_trans GG.out (grown_new w2 _)⟩
    · obtain ⟨hX, gX⟩ := store9 (.string A.name) (.int .i64 A.kind) (.int .i64 A.f) (.int .i64 A.i) (.string A.s) (.int .i64 A.ty) (.slice A.dv.a A.dv.n A.dv.c) (.slice A.tv.a A.tv.n A.tv.c) (.slice A.iv.a A.iv.n A.iv.c) (grown_trans g0 g02) (show w.heap.size ≤ w1.heap.size by have := g01.size; have := HZ0.out; omega) kz2
      have HX := hide hX
      have GX := hide gX
      clear hX gX
      go_wp2_with fail
      go_meet
      exact ⟨_, rfl, rfl, HX.out, GX.out⟩
    · obtain ⟨hX, gX⟩ := store9 (.string A.name) (.int .i64 A.kind) (.int .i64 A.f) (.int .i64 A.i) (.string A.s) (.int .i64 A.ty) (.slice A.dv.a A.dv.n A.dv.c) (.slice A.tv.a A.tv.n A.tv.c) (.slice A.iv.a A.iv.n A.iv.c) (grown_trans g0 g02) (show w.heap.size ≤ w0.heap.size by have := HZ0.out; omega) kz2
      have HX := hide hX
      have GX := hide gX
      clear hX gX
      go_wp2_with fail
      go_meet
      exact ⟨_, rfl, rfl, HX.out, GX.out⟩
  case rest =>
    obtain ⟨N, rfl, rfl, hN, hg⟩ := hcut
    obtain ⟨c0, c1, c2, c3, c4, c5, c6, c7, c8⟩ := atr_cells hN
    have HG := hide hg
    clear hN
    cases bA with
    | true =>
      have E : Hid (intsV xs cs nm zs = cA.i) := HA5.out.1 rfl
      have CL := hide (clone_any _ cA.i wc (HA3.out rfl |>.i.more hg))
      go_wp2_with fail
      refine CL.out.mono ?_
      rintro e w3 ⟨u, rfl, hu, hg3⟩
      go_wp2
      go_ret
      exact ⟨u, rfl, by rw [E.out]; exact hu.base_le HG.out.size, grown_trans HG.out hg3⟩
    | false =>
      have E : Hid (intsV xs cs nm zs = zs) := HA5.out.2 rfl
      have CL := hide (clone_any _ zs wc (HO.out.more hg))
      go_wp2_with fail
      refine CL.out.mono ?_
      rintro e w3 ⟨u, rfl, hu, hg3⟩
      go_wp2
      go_ret
      exact ⟨u, rfl, by rw [E.out]; exact hu.base_le HG.out.size, grown_trans HG.out hg3⟩

set_option maxRecDepth 100000 in
set_option maxHeartbeats 6400000 in
theorem sint_any (n : Nod) (xs : List Atr) (cs : List Cont) (nm : ByteArray) (z : Int) (w : World) (hv : IsAttrs w n.av.v xs) (hc : ∀ (j : Nat) (a : Atr), xs[j]? = some a → ∃ c, cs[j]? = some c ∧ Has w a c) :
    Calls Tryz.prog 59 #[nval n, .string nm, .int .i64 z] w fun e w' => e = .returned (.int .i64 (intV xs nm z)) ∧ w.grownBy w' none := by
  have FN := hide (fun (p q : Nat) (wx : World) (hg : w.grownBy wx none) (hp : wx.heap[p]? = some (.cells #[.string nm] 9 (0, 0))) (hq : wx.heap[q]? = some (.cells #[.int .i64 2] 3 (0, 0))) => first_named n xs p q nm 2 wx (hv.more hg) hp hq)
  obtain ⟨A, bA, cA, hA1, hA2, hA3, hA4⟩ := found_of (nm := nm) (kd := 2) hc
  rw [hA1, hA2] at FN
  have HA3 := hide hA3
  have HA4 := hide hA4
  clear hA1 hA2 hA3 hA4 hc
  have HA5 : Hid ((bA = true → intV xs nm z = A.i) ∧ (bA = false → intV xs nm z = z)) := ⟨fun h => by unfold intV; rw [(HA4.out.1 h).1], fun h => by unfold intV; rw [(HA4.out.2 h).1]⟩
  clear HA3 HA4
  obtain ⟨op, nam, ⟨ia, il, ic⟩, out, ⟨ao, al, cap⟩⟩ := n
  unfold nval at FN ⊢
  unfold aval at FN
  simp only at FN ⊢
  clear hv
  obtain ⟨w0, hw0⟩ : ∃ w0, w0 = w.alloc (.cells #[.string op, .string nam, .slice ia il ic, .string out, .slice ao al cap] 25) := ⟨_, rfl⟩
  have g0 : w.grownBy w0 none := by rw [hw0]; exact grown_new _ _
  have hb0 := heap_alloc_new w (.cells #[.string op, .string nam, .slice ia il ic, .string out, .slice ao al cap] 25)
  rw [← hw0] at hb0
  have HZ0 : Hid (w0.heap.size = w.heap.size + 1) := by rw [hw0]; simp [Hid]
  have BX : Hid (∀ wx, w0.grownBy wx none → wx.heap[w.heap.size]? = some (.cells #[.string op, .string nam, .slice ia il ic, .string out, .slice ao al cap] 25 (0, 0))) := fun wx hg => box_kept hb0 hg
  clear hb0
  go_enter Tryz.func59, Tryz.ntmps59
  go_wp2_with fail
  rw [← hw0]
  clear hw0
  go_cut [7, 8] from 9 to 15 (fun p b wx => ∃ N : Nat, p = .pointer (some ⟨N, 0, none⟩) ∧ b = .bool bA ∧ wx.heap[N]? = some (.cells #[.string A.name, .int .i64 A.kind, .int .i64 A.f, .int .i64 A.i, .string A.s, .int .i64 A.ty, .slice A.dv.a A.dv.n A.dv.c, .slice A.tv.a A.tv.n A.tv.c, .slice A.iv.a A.iv.n A.iv.c] 41 (0, 0)) ∧ w.grownBy wx none)
  case first =>
    obtain ⟨n0, n1, n2, n3, n4⟩ := nod_cells (n := ⟨op, nam, ⟨ia, il, ic⟩, out, ⟨ao, al, cap⟩⟩) (BX.out w0 (grown_refl _))
    have gd := grown_drew (grown_refl w0)
    go_region_held3 (fun w' => w'.cell? ⟨w.heap.size, 0, none⟩ = some (.string op) ∧ w'.cell? ⟨w.heap.size, 1, none⟩ = some (.string nam) ∧ w'.cell? ⟨w.heap.size, 2, none⟩ = some (.slice ia il ic) ∧ w'.cell? ⟨w.heap.size, 3, none⟩ = some (.string out) ∧ w'.cell? ⟨w.heap.size, 4, none⟩ = some (.slice ao al cap)) (go_keep) (first | (go_at_call 79; refine (named_any _ _ _).mono ?_; rintro e w1 ⟨rfl, hp1, hq1, hg1⟩; have g01 : w0.grownBy w1 none := (by first | exact grown_trans gd hg1 | exact grown_trans (grown_trans gd (grown_new _ _)) hg1); obtain ⟨n0, n1, n2, n3, n4⟩ := nod_cells (n := ⟨op, nam, ⟨ia, il, ic⟩, out, ⟨ao, al, cap⟩⟩) (BX.out w1 g01); have hz1 : w.heap.size ≠ w1.heap.size := (by have := g01.size; have := HZ0.out; omega); have hzz : w.heap.size ≠ w0.heap.size := (by have := HZ0.out; omega); have hz1' := hz1.symm; have hzz' := hzz.symm; try (have hp2 : w1.heap[w0.heap.size + 1]? = some (.cells #[.string nm] 9 (0, 0)) := (by have h := hp1; rw [show ((w0.alloc (.cells #[.string ⟨#[]⟩, .int .i64 0, .int .i64 0, .int .i64 0, .string ⟨#[]⟩, .int .i64 0, .slice none 0 0, .slice none 0 0, .slice none 0 0] 41)).drew).heap.size = w0.heap.size + 1 by simp] at h; exact h)); try (have hq2 : w1.heap[w0.heap.size + 1 + 1]? = some (.cells #[.int .i64 2] 3 (0, 0)) := (by have h := hq1; rw [show ((w0.alloc (.cells #[.string ⟨#[]⟩, .int .i64 0, .int .i64 0, .int .i64 0, .string ⟨#[]⟩, .int .i64 0, .slice none 0 0, .slice none 0 0, .slice none 0 0] 41)).drew).heap.size = w0.heap.size + 1 by simp] at h; exact h)); try (have kz : w1.heap[w0.heap.size]? = some (.cells #[.string ⟨#[]⟩, .int .i64 0, .int .i64 0, .int .i64 0, .string ⟨#[]⟩, .int .i64 0, .slice none 0 0, .slice none 0 0, .slice none 0 0] 41 (0, 0)) := box_kept (show ((w0.alloc (.cells #[.string ⟨#[]⟩, .int .i64 0, .int .i64 0, .int .i64 0, .string ⟨#[]⟩, .int .i64 0, .slice none 0 0, .slice none 0 0, .slice none 0 0] 41)).drew).heap[w0.heap.size]? = _ from heap_alloc_new w0 _) hg1)) | (go_at_call 78; refine (FN.out _ _ _ (by first | exact grown_trans g0 g01 | exact grown_trans (grown_trans g0 g01) (grown_new _ _)) (by first | exact hp1 | exact hp2 | exact box_kept hp1 (grown_new _ _)) (by first | exact hq1 | exact hq2 | exact box_kept hq1 (grown_new _ _))).mono ?_; rintro e w2 ⟨rfl, hg2⟩; have g02 : w0.grownBy w2 none := (by first | exact grown_trans g01 hg2 | exact grown_trans (grown_trans g01 (grown_new _ _)) hg2); obtain ⟨n0, n1, n2, n3, n4⟩ := nod_cells (n := ⟨op, nam, ⟨ia, il, ic⟩, out, ⟨ao, al, cap⟩⟩) (BX.out w2 g02); try (first | have kz2 := box_kept kz hg2 | have kz2 : w2.heap[w1.heap.size]? = some (.cells #[.string ⟨#[]⟩, .int .i64 0, .int .i64 0, .int .i64 0, .string ⟨#[]⟩, .int .i64 0, .slice none 0 0, .slice none 0 0, .slice none 0 0] 41 (0, 0)) := box_kept (heap_alloc_new w1 _) hg2); try (obtain ⟨f0, f1, f2, f3, f4, f5, f6, f7, f8⟩ := atr_frozen kz2); try (obtain ⟨k0, k1, k2, k3, k4, k5, k6, k7, k8⟩ := atr_cells (a := noAtr) kz2)))
    · have GG := hide (grown_trans g0 g02)
      go_wp2_with fail
      go_meet
      exact ⟨_, rfl, rfl, heap_alloc_new w2 _, grown_trans GG.out (grown_new w2 _)⟩
    · obtain ⟨hX, gX⟩ := store9 (.string A.name) (.int .i64 A.kind) (.int .i64 A.f) (.int .i64 A.i) (.string A.s) (.int .i64 A.ty) (.slice A.dv.a A.dv.n A.dv.c) (.slice A.tv.a A.tv.n A.tv.c) (.slice A.iv.a A.iv.n A.iv.c) (grown_trans g0 g02) (show w.heap.size ≤ w1.heap.size by have := g01.size; have := HZ0.out; omega) kz2
      have HX := hide hX
      have GX := hide gX
      clear hX gX
      go_wp2_with fail
      go_meet
      exact ⟨_, rfl, rfl, HX.out, GX.out⟩
    · obtain ⟨hX, gX⟩ := store9 (.string A.name) (.int .i64 A.kind) (.int .i64 A.f) (.int .i64 A.i) (.string A.s) (.int .i64 A.ty) (.slice A.dv.a A.dv.n A.dv.c) (.slice A.tv.a A.tv.n A.tv.c) (.slice A.iv.a A.iv.n A.iv.c) (grown_trans g0 g02) (show w.heap.size ≤ w0.heap.size by have := HZ0.out; omega) kz2
      have HX := hide hX
      have GX := hide gX
      clear hX gX
      go_wp2_with fail
      go_meet
      exact ⟨_, rfl, rfl, HX.out, GX.out⟩
  case rest =>
    obtain ⟨N, rfl, rfl, hN, hg⟩ := hcut
    obtain ⟨c0, c1, c2, c3, c4, c5, c6, c7, c8⟩ := atr_cells hN
    have HG := hide hg
    clear hN
    cases bA with
    | true =>
      have E : Hid (intV xs nm z = A.i) := HA5.out.1 rfl
      clear hg
      go_wp2
      go_ret
      exact ⟨by rw [E.out]; rfl, HG.out⟩
    | false =>
      have E : Hid (intV xs nm z = z) := HA5.out.2 rfl
      clear hg
      go_wp2
      go_ret
      exact ⟨by rw [E.out]; rfl, HG.out⟩

set_option maxRecDepth 100000 in
set_option maxHeartbeats 6400000 in
theorem sbits_any (n : Nod) (xs : List Atr) (cs : List Cont) (nm : ByteArray) (z : Int) (w : World) (hv : IsAttrs w n.av.v xs) (hc : ∀ (j : Nat) (a : Atr), xs[j]? = some a → ∃ c, cs[j]? = some c ∧ Has w a c) :
    Calls Tryz.prog 57 #[nval n, .string nm, .int .i64 z] w fun e w' => e = .returned (.int .i64 (bitsV xs nm z)) ∧ w.grownBy w' none := by
  have FN := hide (fun (p q : Nat) (wx : World) (hg : w.grownBy wx none) (hp : wx.heap[p]? = some (.cells #[.string nm] 9 (0, 0))) (hq : wx.heap[q]? = some (.cells #[.int .i64 1] 3 (0, 0))) => first_named n xs p q nm 1 wx (hv.more hg) hp hq)
  obtain ⟨A, bA, cA, hA1, hA2, hA3, hA4⟩ := found_of (nm := nm) (kd := 1) hc
  rw [hA1, hA2] at FN
  have HA3 := hide hA3
  have HA4 := hide hA4
  clear hA1 hA2 hA3 hA4 hc
  have HA5 : Hid ((bA = true → bitsV xs nm z = A.f) ∧ (bA = false → bitsV xs nm z = z)) := ⟨fun h => by unfold bitsV; rw [(HA4.out.1 h).1], fun h => by unfold bitsV; rw [(HA4.out.2 h).1]⟩
  clear HA3 HA4
  obtain ⟨op, nam, ⟨ia, il, ic⟩, out, ⟨ao, al, cap⟩⟩ := n
  unfold nval at FN ⊢
  unfold aval at FN
  simp only at FN ⊢
  clear hv
  obtain ⟨w0, hw0⟩ : ∃ w0, w0 = w.alloc (.cells #[.string op, .string nam, .slice ia il ic, .string out, .slice ao al cap] 25) := ⟨_, rfl⟩
  have g0 : w.grownBy w0 none := by rw [hw0]; exact grown_new _ _
  have hb0 := heap_alloc_new w (.cells #[.string op, .string nam, .slice ia il ic, .string out, .slice ao al cap] 25)
  rw [← hw0] at hb0
  have HZ0 : Hid (w0.heap.size = w.heap.size + 1) := by rw [hw0]; simp [Hid]
  have BX : Hid (∀ wx, w0.grownBy wx none → wx.heap[w.heap.size]? = some (.cells #[.string op, .string nam, .slice ia il ic, .string out, .slice ao al cap] 25 (0, 0))) := fun wx hg => box_kept hb0 hg
  clear hb0
  go_enter Tryz.func57, Tryz.ntmps57
  go_wp2_with fail
  rw [← hw0]
  clear hw0
  go_cut [7, 8] from 9 to 15 (fun p b wx => ∃ N : Nat, p = .pointer (some ⟨N, 0, none⟩) ∧ b = .bool bA ∧ wx.heap[N]? = some (.cells #[.string A.name, .int .i64 A.kind, .int .i64 A.f, .int .i64 A.i, .string A.s, .int .i64 A.ty, .slice A.dv.a A.dv.n A.dv.c, .slice A.tv.a A.tv.n A.tv.c, .slice A.iv.a A.iv.n A.iv.c] 41 (0, 0)) ∧ w.grownBy wx none)
  case first =>
    obtain ⟨n0, n1, n2, n3, n4⟩ := nod_cells (n := ⟨op, nam, ⟨ia, il, ic⟩, out, ⟨ao, al, cap⟩⟩) (BX.out w0 (grown_refl _))
    have gd := grown_drew (grown_refl w0)
    go_region_held3 (fun w' => w'.cell? ⟨w.heap.size, 0, none⟩ = some (.string op) ∧ w'.cell? ⟨w.heap.size, 1, none⟩ = some (.string nam) ∧ w'.cell? ⟨w.heap.size, 2, none⟩ = some (.slice ia il ic) ∧ w'.cell? ⟨w.heap.size, 3, none⟩ = some (.string out) ∧ w'.cell? ⟨w.heap.size, 4, none⟩ = some (.slice ao al cap)) (go_keep) (first | (go_at_call 79; refine (named_any _ _ _).mono ?_; rintro e w1 ⟨rfl, hp1, hq1, hg1⟩; have g01 : w0.grownBy w1 none := (by first | exact grown_trans gd hg1 | exact grown_trans (grown_trans gd (grown_new _ _)) hg1); obtain ⟨n0, n1, n2, n3, n4⟩ := nod_cells (n := ⟨op, nam, ⟨ia, il, ic⟩, out, ⟨ao, al, cap⟩⟩) (BX.out w1 g01); have hz1 : w.heap.size ≠ w1.heap.size := (by have := g01.size; have := HZ0.out; omega); have hzz : w.heap.size ≠ w0.heap.size := (by have := HZ0.out; omega); have hz1' := hz1.symm; have hzz' := hzz.symm; try (have hp2 : w1.heap[w0.heap.size + 1]? = some (.cells #[.string nm] 9 (0, 0)) := (by have h := hp1; rw [show ((w0.alloc (.cells #[.string ⟨#[]⟩, .int .i64 0, .int .i64 0, .int .i64 0, .string ⟨#[]⟩, .int .i64 0, .slice none 0 0, .slice none 0 0, .slice none 0 0] 41)).drew).heap.size = w0.heap.size + 1 by simp] at h; exact h)); try (have hq2 : w1.heap[w0.heap.size + 1 + 1]? = some (.cells #[.int .i64 1] 3 (0, 0)) := (by have h := hq1; rw [show ((w0.alloc (.cells #[.string ⟨#[]⟩, .int .i64 0, .int .i64 0, .int .i64 0, .string ⟨#[]⟩, .int .i64 0, .slice none 0 0, .slice none 0 0, .slice none 0 0] 41)).drew).heap.size = w0.heap.size + 1 by simp] at h; exact h)); try (have kz : w1.heap[w0.heap.size]? = some (.cells #[.string ⟨#[]⟩, .int .i64 0, .int .i64 0, .int .i64 0, .string ⟨#[]⟩, .int .i64 0, .slice none 0 0, .slice none 0 0, .slice none 0 0] 41 (0, 0)) := box_kept (show ((w0.alloc (.cells #[.string ⟨#[]⟩, .int .i64 0, .int .i64 0, .int .i64 0, .string ⟨#[]⟩, .int .i64 0, .slice none 0 0, .slice none 0 0, .slice none 0 0] 41)).drew).heap[w0.heap.size]? = _ from heap_alloc_new w0 _) hg1)) | (go_at_call 78; refine (FN.out _ _ _ (by first | exact grown_trans g0 g01 | exact grown_trans (grown_trans g0 g01) (grown_new _ _)) (by first | exact hp1 | exact hp2 | exact box_kept hp1 (grown_new _ _)) (by first | exact hq1 | exact hq2 | exact box_kept hq1 (grown_new _ _))).mono ?_; rintro e w2 ⟨rfl, hg2⟩; have g02 : w0.grownBy w2 none := (by first | exact grown_trans g01 hg2 | exact grown_trans (grown_trans g01 (grown_new _ _)) hg2); obtain ⟨n0, n1, n2, n3, n4⟩ := nod_cells (n := ⟨op, nam, ⟨ia, il, ic⟩, out, ⟨ao, al, cap⟩⟩) (BX.out w2 g02); try (first | have kz2 := box_kept kz hg2 | have kz2 : w2.heap[w1.heap.size]? = some (.cells #[.string ⟨#[]⟩, .int .i64 0, .int .i64 0, .int .i64 0, .string ⟨#[]⟩, .int .i64 0, .slice none 0 0, .slice none 0 0, .slice none 0 0] 41 (0, 0)) := box_kept (heap_alloc_new w1 _) hg2); try (obtain ⟨f0, f1, f2, f3, f4, f5, f6, f7, f8⟩ := atr_frozen kz2); try (obtain ⟨k0, k1, k2, k3, k4, k5, k6, k7, k8⟩ := atr_cells (a := noAtr) kz2)))
    · have GG := hide (grown_trans g0 g02)
      go_wp2_with fail
      go_meet
      exact ⟨_, rfl, rfl, heap_alloc_new w2 _, grown_trans GG.out (grown_new w2 _)⟩
    · obtain ⟨hX, gX⟩ := store9 (.string A.name) (.int .i64 A.kind) (.int .i64 A.f) (.int .i64 A.i) (.string A.s) (.int .i64 A.ty) (.slice A.dv.a A.dv.n A.dv.c) (.slice A.tv.a A.tv.n A.tv.c) (.slice A.iv.a A.iv.n A.iv.c) (grown_trans g0 g02) (show w.heap.size ≤ w1.heap.size by have := g01.size; have := HZ0.out; omega) kz2
      have HX := hide hX
      have GX := hide gX
      clear hX gX
      go_wp2_with fail
      go_meet
      exact ⟨_, rfl, rfl, HX.out, GX.out⟩
    · obtain ⟨hX, gX⟩ := store9 (.string A.name) (.int .i64 A.kind) (.int .i64 A.f) (.int .i64 A.i) (.string A.s) (.int .i64 A.ty) (.slice A.dv.a A.dv.n A.dv.c) (.slice A.tv.a A.tv.n A.tv.c) (.slice A.iv.a A.iv.n A.iv.c) (grown_trans g0 g02) (show w.heap.size ≤ w0.heap.size by have := HZ0.out; omega) kz2
      have HX := hide hX
      have GX := hide gX
      clear hX gX
      go_wp2_with fail
      go_meet
      exact ⟨_, rfl, rfl, HX.out, GX.out⟩
  case rest =>
    obtain ⟨N, rfl, rfl, hN, hg⟩ := hcut
    obtain ⟨c0, c1, c2, c3, c4, c5, c6, c7, c8⟩ := atr_cells hN
    have HG := hide hg
    clear hN
    cases bA with
    | true =>
      have E : Hid (bitsV xs nm z = A.f) := HA5.out.1 rfl
      clear hg
      go_wp2
      go_ret
      exact ⟨by rw [E.out]; rfl, HG.out⟩
    | false =>
      have E : Hid (bitsV xs nm z = z) := HA5.out.2 rfl
      clear hg
      go_wp2
      go_ret
      exact ⟨by rw [E.out]; rfl, HG.out⟩

end Go.Proofs.YtaoplfpigjkgpaaGreatDoor

namespace Go.Proofs.YtaoplfpigjkgpaaGreatDoor

abbrev R := Except Int

def mustP (b : Bool) : R Unit := if b = true then .ok () else .error 4
def stopP (e : Int) : R Unit := if e = 0 then .ok () else .error e
def wholeP (x : Int) : Int := if (if x < -1073741824 then -1073741824 else x) < 1073741824 then (if x < -1073741824 then -1073741824 else x) else 1073741824
def isTypeP (t : Int) : Bool := t == 1 || t == 6 || t == 7 || t == 9
def typP (t : Int) : R Unit := if isTypeP t = true then .ok () else .error 5
def countP (zs : List Int) : R Int := if cntE zs = 0 then .ok (prod zs) else .error (cntE zs)
def spreadP (a b : List Int) : R (List Int) := if bcE a b = 0 then .ok (bcR a b) else .error (bcE a b)
def fromEndP (x : Int) (n : Nat) : Int := if x < 0 then x + n else x
def axisO (a : Int) (rank : Nat) : Option Nat := if fromEndP a rank < 0 then none else if (rank : Int) ≤ fromEndP a rank then none else some (fromEndP a rank).toNat
def axisP (a : Int) (rank : Nat) : R Nat := match axisO a rank with
  | some i => .ok i
  | none => .error 4
def axesO (rank : Nat) : List Int → List Bool → Option (List Bool)
  | [], is => some is
  | a :: l, is => match axisO a rank with
    | none => none
    | some i => if is.getD i false = true then none else axesO rank l (is.set i true)
def axesP (l : List Int) (rank : Nat) : R (List Bool) := match axesO rank l (List.replicate rank false) with
  | some is => .ok is
  | none => .error 4
def boundedP (x : Int) (d : Nat) : Int := if (if fromEndP x d < 0 then 0 else fromEndP x d) < d then (if fromEndP x d < 0 then 0 else fromEndP x d) else d
def upToP (n : Nat) : List Int := (List.range n).map Int.ofNat
def isOnP (x : Int) : R Bool := if x = 0 then .ok false else if x = 1 then .ok true else .error 4

structure At where
  op : ByteArray
  xs : List Atr
  cs : List Cont

def At.int (n : At) (nm : ByteArray) (z : Int) : Int := intV n.xs nm z
def At.ints (n : At) (nm : ByteArray) (zs : List Int) : List Int := intsV n.xs n.cs nm zs

def permP (n : At) (rank : Nat) : List Int := n.ints ⟨#[112, 101, 114, 109]⟩ (upToP rank).reverse
def alongP (n : At) (rank : Nat) : List Int :=
  if n.op.toList = [65, 114, 103, 77, 97, 120] then [n.int ⟨#[97, 120, 105, 115]⟩ 0] else if n.op.toList = [83, 111, 102, 116, 109, 97, 120] then [n.int ⟨#[97, 120, 105, 115]⟩ (-1)] else n.ints ⟨#[97, 120, 101, 115]⟩ (upToP rank)

def sliceL (x : List Int) : List Int → List Int → List Int → List Int → R (List Int)
  | a :: al, s :: ss, e :: es, dims => do
    let axis ← axisP a x.length
    mustP (decide (boundedP s (x.getD axis 0).toNat < boundedP e (x.getD axis 0).toNat))
    sliceL x al ss es (dims.set axis (boundedP e (x.getD axis 0).toNat - boundedP s (x.getD axis 0).toNat))
  | _, _, _, dims => .ok dims
def slicedP (n : At) (x : List Int) : R (List Int) := do
  let starts := n.ints ⟨#[115, 116, 97, 114, 116, 115]⟩ []
  let ends := n.ints ⟨#[101, 110, 100, 115]⟩ []
  let axes := n.ints ⟨#[97, 120, 101, 115]⟩ (upToP starts.length)
  mustP (decide (starts.length = ends.length ∧ starts.length = axes.length))
  let _ ← axesP axes x.length
  sliceL x axes starts ends x

def padL (r : Nat) : List Int → Nat → List Int → R (List Int)
  | [], _, dims => .ok dims
  | p :: l, i, dims => do
    mustP (decide (0 ≤ p ∧ p ≤ 65536))
    padL r l (i + 1) (dims.set (i % r) (dims.getD (i % r) 0 + p))
def paddedP (x pads : List Int) : R (List Int) := do
  mustP (decide (pads.length = 2 * x.length))
  padL x.length pads 0 x

def withinP (l : List Int) (many : Nat) (least : Int) : R (List Int) := do
  mustP (decide (l.length = many))
  mustP (l.all (fun x => decide (least ≤ x ∧ x ≤ 100)))
  return l
def padsP (n : At) : R (List Int) := withinP (n.ints ⟨#[112, 97, 100, 115]⟩ [0, 0, 0, 0]) 4 0
def placesP (n : At) (x kernel : List Int) (along : Nat) : R Int := do
  let stride ← withinP (n.ints ⟨#[115, 116, 114, 105, 100, 101, 115]⟩ [1, 1]) 2 1
  let dilation ← withinP (n.ints ⟨#[100, 105, 108, 97, 116, 105, 111, 110, 115]⟩ [1, 1]) 2 1
  let pads ← padsP n
  let rest := x.getD (2 + along) 0 + pads.getD along 0 + pads.getD (2 + along) 0 - dilation.getD along 0 * (kernel.getD along 0 - 1) - 1
  mustP (decide (0 ≤ rest))
  return rest / stride.getD along 0 + 1
def convolvedP (n : At) (x w : List Int) (z : Option (List Int)) : R (List Int) := do
  mustP (decide (x.length = 4 ∧ w.length = 4))
  mustP (match z with
    | none => true
    | some c => decide (c.length = 1 ∧ c.getD 0 0 = w.getD 0 0))
  let group := n.int ⟨#[103, 114, 111, 117, 112]⟩ 1
  mustP (decide (1 ≤ group))
  mustP (decide (x.getD 1 0 % group = 0 ∧ w.getD 0 0 % group = 0 ∧ x.getD 1 0 / group = w.getD 1 0))
  let a ← placesP n x [w.getD 2 0, w.getD 3 0] 0
  let b ← placesP n x [w.getD 2 0, w.getD 3 0] 1
  return [x.getD 0 0, w.getD 0 0, a, b]
def pooledP (n : At) (x : List Int) : R (List Int) := do
  mustP (decide (x.length = 4))
  let kernel ← withinP (n.ints ⟨#[107, 101, 114, 110, 101, 108, 95, 115, 104, 97, 112, 101]⟩ []) 2 1
  let pads ← padsP n
  mustP ((List.range 4).all (fun i => decide (pads.getD i 0 < kernel.getD (i % 2) 0)))
  let a ← placesP n x kernel 0
  let b ← placesP n x kernel 1
  return [x.getD 0 0, x.getD 1 0, a, b]

end Go.Proofs.YtaoplfpigjkgpaaGreatDoor

namespace Go.Proofs.YtaoplfpigjkgpaaGreatDoor

open Go.RowKit

def Ended {α : Type} (w : World) (r : R α) (Q : α → Value → World → Prop) (e : Ending) (w' : World) : Prop := w.grownBy w' none ∧ match r with
  | .error c => e = .panicked [{ v := .iface 33 (.int .i64 c), recovered := false }]
  | .ok a => ∃ v, e = .returned v ∧ Q a v w'

theorem ended_err {α : Type} {w w' : World} {r : R α} {Q : α → Value → World → Prop} {c : Int} (h : r = .error c) (hg : w.grownBy w' none) : Ended w r Q (.panicked [{ v := .iface 33 (.int .i64 c), recovered := false }]) w' := by
  rw [h]
  exact ⟨hg, rfl⟩

theorem ended_ok {α : Type} {w w' : World} {r : R α} {Q : α → Value → World → Prop} {a : α} {v : Value} (h : r = .ok a) (hg : w.grownBy w' none) (hq : Q a v w') : Ended w r Q (.returned v) w' := by
  rw [h]
  exact ⟨hg, v, rfl, hq⟩

theorem Owns.sl {w : World} {base : Nat} {v : Value} {zs : List Int} (h : Owns w base v zs) : ∃ s : Sl, v = s.v := by
  rcases h.1.2 with ⟨rfl, -⟩ | ⟨g, cap, cur, rfl, -⟩
  · exact ⟨⟨none, 0, 0⟩, rfl⟩
  · exact ⟨⟨_, _, _⟩, rfl⟩

theorem must_yes (w : World) : Calls Tryz.prog 89 #[.bool true] w fun e w' => e = .returned (.tuple #[]) ∧ w = w' := by
  go_enter Tryz.func89, Tryz.ntmps89
  go_wp2
  go_end0
  exact ⟨rfl, rfl⟩

theorem must_no (w : World) : Calls Tryz.prog 89 #[.bool false] w fun e w' => e = .panicked [{ v := .iface 33 (.int .i64 4), recovered := false }] ∧ w = w' := by
  go_enter Tryz.func89, Tryz.ntmps89
  go_wp2
  exact ⟨rfl, rfl, rfl⟩

theorem stop_ok (w : World) : Calls Tryz.prog 87 #[.int .i64 0] w fun e w' => e = .returned (.tuple #[]) ∧ w = w' := by
  go_enter Tryz.func87, Tryz.ntmps87
  go_wp2
  go_end0
  exact ⟨rfl, rfl⟩

theorem stop_err (c : Int) (hc : c ≠ 0) (w : World) : Calls Tryz.prog 87 #[.int .i64 c] w fun e w' => e = .panicked [{ v := .iface 33 (.int .i64 c), recovered := false }] ∧ w = w' := by
  have h : (c != 0) = true := by simpa using hc
  clear hc
  go_enter Tryz.func87, Tryz.ntmps87
  go_wp2
  exact ⟨rfl, rfl, rfl⟩

theorem fromend_any (x : Int) (n : Nat) (w : World) (hn : n ≤ 100000000000000) (hx : -9223372036854775808 ≤ x) : Calls Tryz.prog 82 #[.int .i64 x, .int .i64 n] w fun e w' => e = .returned (.int .i64 (fromEndP x n)) ∧ w = w' := by
  by_cases h : x < 0
  · have E : Hid (fromEndP x n = x + n) := by show fromEndP x n = x + n; simp [fromEndP, h]
    go_enter Tryz.func82, Tryz.ntmps82
    go_wp2
    go_ret
    exact ⟨by rw [E.out]; rfl, rfl⟩
  · have E : Hid (fromEndP x n = x) := by show fromEndP x n = x; simp [fromEndP, h]
    go_enter Tryz.func82, Tryz.ntmps82
    go_wp2
    go_ret
    exact ⟨by rw [E.out]; rfl, rfl⟩

theorem axis_any (a : Int) (rank : Nat) (w : World) (hr : rank ≤ 100000000000000) (ha : -9223372036854775808 ≤ a) : Calls Tryz.prog 54 #[.int .i64 a, .int .i64 rank] w fun e w' => e = .returned (.tuple #[.int .i64 ((axisO a rank).getD 0 : Nat), .bool (axisO a rank).isSome]) ∧ w = w' := by
  have F := hide (fromend_any a rank w hr ha)
  obtain ⟨f, hf⟩ : ∃ f, f = fromEndP a rank := ⟨_, rfl⟩
  have E : Hid (axisO a rank = if f < 0 then none else if (rank : Int) ≤ f then none else some f.toNat) := by show axisO a rank = _; rw [hf]; rfl
  rw [← hf] at F
  clear hf
  by_cases h1 : f < 0
  · have E2 : Hid (axisO a rank = none) := by show axisO a rank = none; rw [E.out, if_pos h1]
    go_enter Tryz.func54, Tryz.ntmps54
    go_wp2_with (go_at_call 82; refine F.out.mono ?_; rintro e w' ⟨rfl, rfl⟩)
    go_ret2
    exact ⟨by rw [E2.out]; rfl, rfl⟩
  · by_cases h2 : (rank : Int) ≤ f
    · have E2 : Hid (axisO a rank = none) := by show axisO a rank = none; rw [E.out, if_neg h1, if_pos h2]
      go_enter Tryz.func54, Tryz.ntmps54
      go_wp2_with (go_at_call 82; refine F.out.mono ?_; rintro e w' ⟨rfl, rfl⟩)
      go_ret2
      exact ⟨by rw [E2.out]; rfl, rfl⟩
    · have E2 : Hid (axisO a rank = some f.toNat) := by show axisO a rank = some f.toNat; rw [E.out, if_neg h1, if_neg h2]
      have E3 : Hid (((f.toNat : Nat) : Int) = f) := by show ((f.toNat : Nat) : Int) = f; omega
      go_enter Tryz.func54, Tryz.ntmps54
      go_wp2_with (go_at_call 82; refine F.out.mono ?_; rintro e w' ⟨rfl, rfl⟩)
      go_ret2
      exact ⟨by rw [E2.out]; simp only [Option.getD_some, E3.out]; rfl, rfl⟩

theorem axisof_any (a : Int) (rank : Nat) (w : World) (hr : rank ≤ 100000000000000) (ha : -9223372036854775808 ≤ a) : Calls Tryz.prog 121 #[.int .i64 a, .int .i64 rank] w (Ended w (axisP a rank) fun i v w' => v = .int .i64 (i : Nat) ∧ w = w') := by
  have F := hide (axis_any a rank w hr ha)
  unfold axisP
  cases hx : axisO a rank with
  | none =>
    rw [hx] at F
    clear hx
    go_enter Tryz.func121, Tryz.ntmps121
    go_wp2_with (first | (go_at_call 54; refine F.out.mono ?_; rintro e w' ⟨rfl, rfl⟩) | (go_at_call 89; refine (must_no _).mono ?_; rintro e w' ⟨rfl, rfl⟩))
    exact ⟨rfl, grown_refl _, rfl⟩
  | some i =>
    rw [hx] at F
    clear hx
    go_enter Tryz.func121, Tryz.ntmps121
    go_wp2_with (first | (go_at_call 54; refine F.out.mono ?_; rintro e w' ⟨rfl, rfl⟩) | (go_at_call 89; refine (must_yes _).mono ?_; rintro e w' ⟨rfl, rfl⟩))
    go_ret
    exact ⟨grown_refl _, _, rfl, rfl, rfl⟩

theorem countof_any (v : Value) (zs : List Int) (w : World) (h : IsInts w v zs) : Calls Tryz.prog 91 #[v] w (Ended w (countP zs) fun n v w' => v = .int .i64 n ∧ w = w') := by
  have F := hide (count_any v zs w h)
  unfold countP
  by_cases hx : cntE zs = 0
  · rw [if_pos hx]
    have E : cnt zs = prod zs := by simp [cnt, hx]
    rw [hx, E] at F
    clear hx h E
    go_enter Tryz.func91, Tryz.ntmps91
    go_wp2_with (first | (go_at_call 42; refine F.out.mono ?_; rintro e w' ⟨rfl, rfl⟩) | (go_at_call 87; refine (stop_ok _).mono ?_; rintro e w' ⟨rfl, rfl⟩))
    go_ret
    exact ⟨grown_refl _, _, rfl, rfl, rfl⟩
  · rw [if_neg hx]
    have HX := hide hx
    clear hx h
    go_enter Tryz.func91, Tryz.ntmps91
    go_wp2_with (first | (go_at_call 42; refine F.out.mono ?_; rintro e w' ⟨rfl, rfl⟩) | (go_at_call 87; refine (stop_err _ HX.out _).mono ?_; rintro e w' ⟨rfl, rfl⟩))
    exact ⟨rfl, grown_refl _, rfl⟩

theorem itype_any (t : Int) (w : World) : Calls Tryz.prog 108 #[.int .i64 t] w fun e w' => e = .returned (.bool (isTypeP t)) ∧ w = w' := by
  have E : Hid (chk t 0 = isTypeP t) := by
    show chk t 0 = isTypeP t
    unfold chk isTypeP
    by_cases h1 : t = 1
    · subst h1; decide
    · by_cases h6 : t = 6
      · subst h6; decide
      · by_cases h7 : t = 7
        · subst h7; decide
        · by_cases h9 : t = 9
          · subst h9; decide
          · simp [h1, h6, h7, h9]
  have C := hide (numck_any t 0 w)
  rw [E.out] at C
  clear E
  go_enter Tryz.func108, Tryz.ntmps108
  go_wp2_with (go_at_call 69; refine C.out.mono ?_; rintro e w' ⟨rfl, rfl⟩)
  go_ret
  exact ⟨rfl, rfl⟩

theorem typ_any (t : Int) (w : World) : Calls Tryz.prog 90 #[.int .i64 t] w (Ended w (typP t) fun _ v w' => v = .tuple #[] ∧ w = w') := by
  have C := hide (itype_any t w)
  unfold typP
  cases h : isTypeP t with
  | true =>
    rw [h] at C
    clear h
    go_enter Tryz.func90, Tryz.ntmps90
    go_wp2_with (go_at_call 108; refine C.out.mono ?_; rintro e w' ⟨rfl, rfl⟩)
    go_end0
    exact ⟨grown_refl _, _, rfl, rfl, rfl⟩
  | false =>
    rw [h] at C
    clear h
    go_enter Tryz.func90, Tryz.ntmps90
    go_wp2_with (go_at_call 108; refine C.out.mono ?_; rintro e w' ⟨rfl, rfl⟩)
    exact ⟨rfl, grown_refl _, rfl⟩

end Go.Proofs.YtaoplfpigjkgpaaGreatDoor
