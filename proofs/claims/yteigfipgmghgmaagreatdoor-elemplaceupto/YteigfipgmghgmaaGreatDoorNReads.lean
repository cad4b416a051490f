/- An attribute's value, or what stands for it, by the walk (mkReads.py). -/
import Derived.Test.YteigfipgmghgmaaGreatDoorNCheckC
namespace Go.Proofs.YteigfipgmghgmaaGreatDoor
open Go.RowKit

/-- The numbers of the attribute that is so called, or others. -/
def intsV (xs : List Atr) (cs : List Cont) (nm : ByteArray) (zs : List Int) : List Int := match (xs.zip cs).find? (fun p => isA nm 7 p.1) with
  | some p => p.2.i
  | none => zs

def intV (xs : List Atr) (nm : ByteArray) (z : Int) : Int := match xs.find? (isA nm 2) with
  | some a => a.i
  | none => z

def bitsV (xs : List Atr) (nm : ByteArray) (z : Int) : Int := match xs.find? (isA nm 1) with
  | some a => a.f
  | none => z

theorem found_of {w : World} {xs : List Atr} {cs : List Cont} {nm : ByteArray} {kd : Int} (hc : ∀ (j : Nat) (a : Atr), xs[j]? = some a → ∃ c, cs[j]? = some c ∧ Has w a c) :
    ∃ (A : Atr) (b : Bool) (c : Cont), (xs.find? (isA nm kd)).getD noAtr = A ∧ (xs.find? (isA nm kd)).isSome = b ∧ (b = true → Has w A c) ∧ ((b = true → xs.find? (isA nm kd) = some A ∧ (xs.zip cs).find? (fun p => isA nm kd p.1) = some (A, c)) ∧ (b = false → xs.find? (isA nm kd) = none ∧ (xs.zip cs).find? (fun p => isA nm kd p.1) = none)) := by
  rcases find_zip (P := isA nm kd) hc with ⟨e1, e2⟩ | ⟨a, c, e1, e2, e3⟩
  · exact ⟨noAtr, false, ⟨[], [], []⟩, by rw [e1]; rfl, by rw [e1]; rfl, (fun h => by cases h), (fun h => by cases h), fun _ => ⟨e1, e2⟩⟩
  · exact ⟨a, true, c, by rw [e1]; rfl, by rw [e1]; rfl, (fun _ => e3), (fun _ => ⟨e1, e2⟩), (fun h => by cases h)⟩

theorem owns_empty (w : World) (te : TypeId) : OwnsL te 1 icell (w.alloc (.cells #[] te)) w.heap.size (.slice (some ⟨w.heap.size, 0, none⟩) 0 0) [] :=
  ⟨rfl, .inr ⟨w.heap.size, 0, #[], rfl, Nat.le_refl _, heap_alloc_new w _, Nat.le_refl _, by simp [maxLen], rfl, rfl⟩⟩

theorem eql_nil (w : World) (a : Option Addr) (l c : Nat) : (binOp .eql 30 (.slice a l c) (.slice none 0 0)).run Tryz.prog w = .ok (.bool a.isNone) w := by
  cases a <;> kernel_rfl

set_option maxRecDepth 100000 in
theorem clone_any (v : Value) (zs : List Int) (w : World) (h : IsInts w v zs) :
    Calls Tryz.prog 147 #[v] w fun e w' => ∃ u : Sl, e = .returned u.v ∧ OwnsL 2 1 icell w' w.heap.size u.v zs ∧ w.grownBy w' none := by
  obtain ⟨i0, hi, hz0, hz1, hz2⟩ := info_parts infoI64
  have H := hide (isL_ints h)
  obtain ⟨ao, cap, rfl, h1, h2, h3, h4, h5, h6⟩ := h
  cases ao with
  | none =>
    obtain ⟨rfl, rfl⟩ := h4 rfl
    have q := eql_nil w none 0 0
    go_enter Tryz.func147, Tryz.ntmps147
    go_wp2
    go_ret
    exact ⟨⟨none, 0, 0⟩, rfl, OwnsL.nil .., grown_refl _⟩
  | some ad =>
    clear h4 h6
    have H5 := hide h5
    clear h5
    have hnews : Hid (∀ o, ∀ j u, (zs.map (Value.int .i64))[j]? = some u → (w.alloc o).cell? (ad.add j) = some u) := by
      intro o j u hu
      have hj : j < zs.length := by have := (List.getElem?_eq_some_iff.1 hu).1; simpa using this
      obtain ⟨b, off, e, hc⟩ := H5.out (by omega)
      obtain rfl := Option.some.inj e
      rw [Addr.add_lit]
      refine cell_still ?_ (grown_new w o)
      rw [hc j hj]
      rw [List.getElem?_map, List.getElem?_eq_getElem hj] at hu
      simpa [List.getD, hj] using hu
    have q := eql_nil w (some ad) zs.length cap
    have OE := hide (owns_empty w 2)
    go_enter Tryz.func147, Tryz.ntmps147
    go_wp2_with (at_builtin; refine wpList_append_own _ rfl (.tmp 5) (.tmp 6) 30 rfl w.heap.size 2 i0 (.int .i64 0) 1 8 Tryz.underlying30 hi hz0 hz1 hz2 rfl (by decide) (.slice (some ⟨w.heap.size, 0, none⟩) 0 0) 0 [] rfl (by exact OE.out) ad zs.length cap (zs.map (Value.int .i64)) rfl (by simp) (by exact hnews.out _) (by intro u hu; obtain ⟨z, -, rfl⟩ := List.mem_map.1 hu; rfl) (by simp only [maxLen]; omega) (by omega) (by simp) ?_; intro v' w1 hown hgrow _)
    have o2 : OwnsL 2 1 icell w1 w.heap.size v' zs := by
      unfold OwnsL
      rw [icells]
      simpa using hown
    have HO := hide o2
    obtain ⟨xa, xc, rfl⟩ := OwnsL.form o2
    have HG : Hid (w.grownBy w1 none) := grown_trans_row (grown_new w (.cells #[] 2)) hgrow (fun r e => by have h : w.heap.size = r := Option.some.inj e; omega)
    clear o2 hown hgrow
    go_ret
    exact ⟨⟨xa, zs.length, xc⟩, rfl, HO.out, HG.out⟩

set_option maxRecDepth 100000 in
set_option maxHeartbeats 6400000 in
theorem sints_any (n : Nod) (xs : List Atr) (cs : List Cont) (nm : ByteArray) (other : Sl) (zs : List Int) (w : World) (hv : IsAttrs w n.av.v xs) (hc : ∀ (j : Nat) (a : Atr), xs[j]? = some a → ∃ c, cs[j]? = some c ∧ Has w a c) (ho : IsInts w other.v zs) :
    Calls Tryz.prog 112 #[nval n, .string nm, .slice other.a other.n other.c] w fun e w' => ∃ u : Sl, e = .returned u.v ∧ OwnsL 2 1 icell w' w.heap.size u.v (intsV xs cs nm zs) ∧ w.grownBy w' none := by
  have FN := hide (fun (p q : Nat) (wx : World) (hg : w.grownBy wx none) (hp : wx.heap[p]? = some (.cells #[.string nm] 9 (0, 0))) (hq : wx.heap[q]? = some (.cells #[.int .i64 7] 3 (0, 0))) => first_named n xs p q nm 7 wx (hv.more hg) hp hq)
  obtain ⟨A, bA, cA, hA1, hA2, hA3, hA4⟩ := found_of (nm := nm) (kd := 7) hc
  rw [hA1, hA2] at FN
  have HA3 := hide hA3
  have HA4 := hide hA4
  clear hA1 hA2 hA3 hA4 hc
  have HO := hide ho
  have HA5 : Hid ((bA = true → intsV xs cs nm zs = cA.i) ∧ (bA = false → intsV xs cs nm zs = zs)) := ⟨fun h => by unfold intsV; rw [(HA4.out.1 h).2], fun h => by unfold intsV; rw [(HA4.out.2 h).2]⟩
  clear HA4 ho
  obtain ⟨op, nam, ⟨ia, il, ic⟩, out, ⟨ao, al, cap⟩⟩ := n
  unfold nval at FN ⊢
  unfold aval at FN
  simp only at FN ⊢
  clear hv
  obtain ⟨w0, hw0⟩ : ∃ w0, w0 = w.alloc (.cells #[.string op, .string nam, .slice ia il ic, .string out, .slice ao al cap] 25) := ⟨_, rfl⟩
  have g0 : w.grownBy w0 none := by rw [hw0]; exact grown_new _ _
  have hb0 := heap_alloc_new w (.cells #[.string op, .string nam, .slice ia il ic, .string out, .slice ao al cap] 25)
  rw [← hw0] at hb0
  have HZ0 : Hid (w0.heap.size = w.heap.size + 1) := by rw [hw0]; simp [Hid]
  have BX : Hid (∀ wx, w0.grownBy wx none → wx.heap[w.heap.size]? = some (.cells #[.string op, .string nam, .slice ia il ic, .string out, .slice ao al cap] 25 (0, 0))) := fun wx hg => box_kept hb0 hg
  clear hb0
  go_enter Tryz.func112, Tryz.ntmps112
  go_wp2_with fail
  rw [← hw0]
  clear hw0
  go_cut [7, 8] from 9 to 15 (fun p b wx => ∃ N : Nat, p = .pointer (some ⟨N, 0, none⟩) ∧ b = .bool bA ∧ wx.heap[N]? = some (.cells #[.string A.name, .int .i64 A.kind, .int .i64 A.f, .int .i64 A.i, .string A.s, .int .i64 A.ty, .slice A.dv.a A.dv.n A.dv.c, .slice A.tv.a A.tv.n A.tv.c, .slice A.iv.a A.iv.n A.iv.c] 92 (0, 0)) ∧ w.grownBy wx none)
  case first =>
    obtain ⟨n0, n1, n2, n3, n4⟩ := nod_cells (n := ⟨op, nam, ⟨ia, il, ic⟩, out, ⟨ao, al, cap⟩⟩) (BX.out w0 (grown_refl _))
    have gd := grown_drew (grown_refl w0)
    go_region_held3 (fun w' => w'.cell? ⟨w.heap.size, 0, none⟩ = some (.string op) ∧ w'.cell? ⟨w.heap.size, 1, none⟩ = some (.string nam) ∧ w'.cell? ⟨w.heap.size, 2, none⟩ = some (.slice ia il ic) ∧ w'.cell? ⟨w.heap.size, 3, none⟩ = some (.string out) ∧ w'.cell? ⟨w.heap.size, 4, none⟩ = some (.slice ao al cap)) (go_keep) (first | (go_at_call 58; refine (named_any _ _ _).mono ?_; rintro e w1 ⟨rfl, hp1, hq1, hg1⟩; have g01 : w0.grownBy w1 none := (by first | exact grown_trans gd hg1 | exact grown_trans (grown_trans gd (grown_new _ _)) hg1); obtain ⟨n0, n1, n2, n3, n4⟩ := nod_cells (n := ⟨op, nam, ⟨ia, il, ic⟩, out, ⟨ao, al, cap⟩⟩) (BX.out w1 g01); have hz1 : w.heap.size ≠ w1.heap.size := (by have := g01.size; have := HZ0.out; omega); have hzz : w.heap.size ≠ w0.heap.size := (by have := HZ0.out; omega); have hz1' := hz1.symm; have hzz' := hzz.symm; try (have hp2 : w1.heap[w0.heap.size + 1]? = some (.cells #[.string nm] 9 (0, 0)) := (by have h := hp1; rw [show ((w0.alloc (.cells #[.string ⟨#[]⟩, .int .i64 0, .int .i64 0, .int .i64 0, .string ⟨#[]⟩, .int .i64 0, .slice none 0 0, .slice none 0 0, .slice none 0 0] 92)).drew).heap.size = w0.heap.size + 1 by simp] at h; exact h)); try (have hq2 : w1.heap[w0.heap.size + 1 + 1]? = some (.cells #[.int .i64 7] 3 (0, 0)) := (by have h := hq1; rw [show ((w0.alloc (.cells #[.string ⟨#[]⟩, .int .i64 0, .int .i64 0, .int .i64 0, .string ⟨#[]⟩, .int .i64 0, .slice none 0 0, .slice none 0 0, .slice none 0 0] 92)).drew).heap.size = w0.heap.size + 1 by simp] at h; exact h)); try (have kz : w1.heap[w0.heap.size]? = some (.cells #[.string ⟨#[]⟩, .int .i64 0, .int .i64 0, .int .i64 0, .string ⟨#[]⟩, .int .i64 0, .slice none 0 0, .slice none 0 0, .slice none 0 0] 92 (0, 0)) := box_kept (show ((w0.alloc (.cells #[.string ⟨#[]⟩, .int .i64 0, .int .i64 0, .int .i64 0, .string ⟨#[]⟩, .int .i64 0, .slice none 0 0, .slice none 0 0, .slice none 0 0] 92)).drew).heap[w0.heap.size]? = _ from heap_alloc_new w0 _) hg1)) | (go_at_call 57; refine (FN.out _ _ _ (by first | exact grown_trans g0 g01 | exact grown_trans (grown_trans g0 g01) (grown_new _ _)) (by first | exact hp1 | exact hp2 | exact box_kept hp1 (grown_new _ _)) (by first | exact hq1 | exact hq2 | exact box_kept hq1 (grown_new _ _))).mono ?_; rintro e w2 ⟨rfl, hg2⟩; have g02 : w0.grownBy w2 none := (by first | exact grown_trans g01 hg2 | exact grown_trans (grown_trans g01 (grown_new _ _)) hg2); obtain ⟨n0, n1, n2, n3, n4⟩ := nod_cells (n := ⟨op, nam, ⟨ia, il, ic⟩, out, ⟨ao, al, cap⟩⟩) (BX.out w2 g02); try (first | have kz2 := box_kept kz hg2 | have kz2 : w2.heap[w1.heap.size]? = some (.cells #[.string ⟨#[]⟩, .int .i64 0, .int .i64 0, .int .i64 0, .string ⟨#[]⟩, .int .i64 0, .slice none 0 0, .slice none 0 0, .slice none 0 0] 92 (0, 0)) := box_kept (heap_alloc_new w1 _) hg2); try (obtain ⟨f0, f1, f2, f3, f4, f5, f6, f7, f8⟩ := atr_frozen kz2); try (obtain ⟨k0, k1, k2, k3, k4, k5, k6, k7, k8⟩ := atr_cells (a := noAtr) kz2)))
    · have GG := hide (grown_trans g0 g02)
      go_wp2_with fail
      go_meet
      exact ⟨_, rfl, rfl, heap_alloc_new w2 _, grown_trans GG.out (grown_new w2 _)⟩
    · obtain ⟨hX, gX⟩ := store9 (.string A.name) (.int .i64 A.kind) (.int .i64 A.f) (.int .i64 A.i) (.string A.s) (.int .i64 A.ty) (.slice A.dv.a A.dv.n A.dv.c) (.slice A.tv.a A.tv.n A.tv.c) (.slice A.iv.a A.iv.n A.iv.c) (grown_trans g0 g02) (show w.heap.size ≤ w1.heap.size by have := g01.size; have := HZ0.out; omega) kz2
      have HX := hide hX
      have GX := hide gX
      clear hX gX
      go_wp2_with fail
      go_meet
      exact ⟨_, rfl, rfl, HX.out, GX.out⟩
    · obtain ⟨hX, gX⟩ := store9 (.string A.name) (.int .i64 A.kind) (.int .i64 A.f) (.int .i64 A.i) (.string A.s) (.int .i64 A.ty) (.slice A.dv.a A.dv.n A.dv.c) (.slice A.tv.a A.tv.n A.tv.c) (.slice A.iv.a A.iv.n A.iv.c) (grown_trans g0 g02) (show w.heap.size ≤ w0.heap.size by have := HZ0.out; omega) kz2
      have HX := hide hX
      have GX := hide gX
      clear hX gX
      go_wp2_with fail
      go_meet
      exact ⟨_, rfl, rfl, HX.out, GX.out⟩
  case rest =>
    obtain ⟨N, rfl, rfl, hN, hg⟩ := hcut
    obtain ⟨c0, c1, c2, c3, c4, c5, c6, c7, c8⟩ := atr_cells hN
    have HG := hide hg
    clear hN
    cases bA with
    | true =>
      have E : Hid (intsV xs cs nm zs = cA.i) := HA5.out.1 rfl
      have CL := hide (clone_any _ cA.i wc (HA3.out rfl |>.i.more hg))
      go_wp2_with fail
      refine CL.out.mono ?_
      rintro e w3 ⟨u, rfl, hu, hg3⟩
      go_wp2
      go_ret
      exact ⟨u, rfl, by rw [E.out]; exact hu.base_le HG.out.size, grown_trans HG.out hg3⟩
    | false =>
      have E : Hid (intsV xs cs nm zs = zs) := HA5.out.2 rfl
      have CL := hide (clone_any _ zs wc (HO.out.more hg))
      go_wp2_with fail
      refine CL.out.mono ?_
      rintro e w3 ⟨u, rfl, hu, hg3⟩
      go_wp2
      go_ret
      exact ⟨u, rfl, by rw [E.out]; exact hu.base_le HG.out.size, grown_trans HG.out hg3⟩

set_option maxRecDepth 100000 in
set_option maxHeartbeats 6400000 in
theorem sint_any (n : Nod) (xs : List Atr) (cs : List Cont) (nm : ByteArray) (z : Int) (w : World) (hv : IsAttrs w n.av.v xs) (hc : ∀ (j : Nat) (a : Atr), xs[j]? = some a → ∃ c, cs[j]? = some c ∧ Has w a c) :
    Calls Tryz.prog 104 #[nval n, .string nm, .int .i64 z] w fun e w' => e = .returned (.int .i64 (intV xs nm z)) ∧ w.grownBy w' none := by
  have FN := hide (fun (p q : Nat) (wx : World) (hg : w.grownBy wx none) (hp : wx.heap[p]? = some (.cells #[.string nm] 9 (0, 0))) (hq : wx.heap[q]? = some (.cells #[.int .i64 2] 3 (0, 0))) => first_named n xs p q nm 2 wx (hv.more hg) hp hq)
  obtain ⟨A, bA, cA, hA1, hA2, hA3, hA4⟩ := found_of (nm := nm) (kd := 2) hc
  rw [hA1, hA2] at FN
  have HA3 := hide hA3
  have HA4 := hide hA4
  clear hA1 hA2 hA3 hA4 hc
  have HA5 : Hid ((bA = true → intV xs nm z = A.i) ∧ (bA = false → intV xs nm z = z)) := ⟨fun h => by unfold intV; rw [(HA4.out.1 h).1], fun h => by unfold intV; rw [(HA4.out.2 h).1]⟩
  clear HA3 HA4
  obtain ⟨op, nam, ⟨ia, il, ic⟩, out, ⟨ao, al, cap⟩⟩ := n
  unfold nval at FN ⊢
  unfold aval at FN
  simp only at FN ⊢
  clear hv
  obtain ⟨w0, hw0⟩ : ∃ w0, w0 = w.alloc (.cells #[.string op, .string nam, .slice ia il ic, .string out, .slice ao al cap] 25) := ⟨_, rfl⟩
  have g0 : w.grownBy w0 none := by rw [hw0]; exact grown_new _ _
  have hb0 := heap_alloc_new w (.cells #[.string op, .string nam, .slice ia il ic, .string out, .slice ao al cap] 25)
  rw [← hw0] at hb0
  have HZ0 : Hid (w0.heap.size = w.heap.size + 1) := by rw [hw0]; simp [Hid]
  have BX : Hid (∀ wx, w0.grownBy wx none → wx.heap[w.heap.size]? = some (.cells #[.string op, .string nam, .slice ia il ic, .string out, .slice ao al cap] 25 (0, 0))) := fun wx hg => box_kept hb0 hg
  clear hb0
  go_enter Tryz.func104, Tryz.ntmps104
  go_wp2_with fail
  rw [← hw0]
  clear hw0
  go_cut [7, 8] from 9 to 15 (fun p b wx => ∃ N : Nat, p = .pointer (some ⟨N, 0, none⟩) ∧ b = .bool bA ∧ wx.heap[N]? = some (.cells #[.string A.name, .int .i64 A.kind, .int .i64 A.f, .int .i64 A.i, .string A.s, .int .i64 A.ty, .slice A.dv.a A.dv.n A.dv.c, .slice A.tv.a A.tv.n A.tv.c, .slice A.iv.a A.iv.n A.iv.c] 92 (0, 0)) ∧ w.grownBy wx none)
  case first =>
    obtain ⟨n0, n1, n2, n3, n4⟩ := nod_cells (n := ⟨op, nam, ⟨ia, il, ic⟩, out, ⟨ao, al, cap⟩⟩) (BX.out w0 (grown_refl _))
    have gd := grown_drew (grown_refl w0)
    go_region_held3 (fun w' => w'.cell? ⟨w.heap.size, 0, none⟩ = some (.string op) ∧ w'.cell? ⟨w.heap.size, 1, none⟩ = some (.string nam) ∧ w'.cell? ⟨w.heap.size, 2, none⟩ = some (.slice ia il ic) ∧ w'.cell? ⟨w.heap.size, 3, none⟩ = some (.string out) ∧ w'.cell? ⟨w.heap.size, 4, none⟩ = some (.slice ao al cap)) (go_keep) (first | (go_at_call 58; refine (named_any _ _ _).mono ?_; rintro e w1 ⟨rfl, hp1, hq1, hg1⟩; have g01 : w0.grownBy w1 none := (by first | exact grown_trans gd hg1 | exact grown_trans (grown_trans gd (grown_new _ _)) hg1); obtain ⟨n0, n1, n2, n3, n4⟩ := nod_cells (n := ⟨op, nam, ⟨ia, il, ic⟩, out, ⟨ao, al, cap⟩⟩) (BX.out w1 g01); have hz1 : w.heap.size ≠ w1.heap.size := (by have := g01.size; have := HZ0.out; omega); have hzz : w.heap.size ≠ w0.heap.size := (by have := HZ0.out; omega); have hz1' := hz1.symm; have hzz' := hzz.symm; try (have hp2 : w1.heap[w0.heap.size + 1]? = some (.cells #[.string nm] 9 (0, 0)) := (by have h := hp1; rw [show ((w0.alloc (.cells #[.string ⟨#[]⟩, .int .i64 0, .int .i64 0, .int .i64 0, .string ⟨#[]⟩, .int .i64 0, .slice none 0 0, .slice none 0 0, .slice none 0 0] 92)).drew).heap.size = w0.heap.size + 1 by simp] at h; exact h)); try (have hq2 : w1.heap[w0.heap.size + 1 + 1]? = some (.cells #[.int .i64 2] 3 (0, 0)) := (by have h := hq1; rw [show ((w0.alloc (.cells #[.string ⟨#[]⟩, .int .i64 0, .int .i64 0, .int .i64 0, .string ⟨#[]⟩, .int .i64 0, .slice none 0 0, .slice none 0 0, .slice none 0 0] 92)).drew).heap.size = w0.heap.size + 1 by simp] at h; exact h)); try (have kz : w1.heap[w0.heap.size]? = some (.cells #[.string ⟨#[]⟩, .int .i64 0, .int .i64 0, .int .i64 0, .string ⟨#[]⟩, .int .i64 0, .slice none 0 0, .slice none 0 0, .slice none 0 0] 92 (0, 0)) := box_kept (show ((w0.alloc (.cells #[.string ⟨#[]⟩, .int .i64 0, .int .i64 0, .int .i64 0, .string ⟨#[]⟩, .int .i64 0, .slice none 0 0, .slice none 0 0, .slice none 0 0] 92)).drew).heap[w0.heap.size]? = _ from heap_alloc_new w0 _) hg1)) | (go_at_call 57; refine (FN.out _ _ _ (by first | exact grown_trans g0 g01 | exact grown_trans (grown_trans g0 g01) (grown_new _ _)) (by first | exact hp1 | exact hp2 | exact box_kept hp1 (grown_new _ _)) (by first | exact hq1 | exact hq2 | exact box_kept hq1 (grown_new _ _))).mono ?_; rintro e w2 ⟨rfl, hg2⟩; have g02 : w0.grownBy w2 none := (by first | exact grown_trans g01 hg2 | exact grown_trans (grown_trans g01 (grown_new _ _)) hg2); obtain ⟨n0, n1, n2, n3, n4⟩ := nod_cells (n := ⟨op, nam, ⟨ia, il, ic⟩, out, ⟨ao, al, cap⟩⟩) (BX.out w2 g02); try (first | have kz2 := box_kept kz hg2 | have kz2 : w2.heap[w1.heap.size]? = some (.cells #[.string ⟨#[]⟩, .int .i64 0, .int .i64 0, .int .i64 0, .string ⟨#[]⟩, .int .i64 0, .slice none 0 0, .slice none 0 0, .slice none 0 0] 92 (0, 0)) := box_kept (heap_alloc_new w1 _) hg2); try (obtain ⟨f0, f1, f2, f3, f4, f5, f6, f7, f8⟩ := atr_frozen kz2); try (obtain ⟨k0, k1, k2, k3, k4, k5, k6, k7, k8⟩ := atr_cells (a := noAtr) kz2)))
    · have GG := hide (grown_trans g0 g02)
      go_wp2_with fail
      go_meet
      exact ⟨_, rfl, rfl, heap_alloc_new w2 _, grown_trans GG.out (grown_new w2 _)⟩
    · obtain ⟨hX, gX⟩ := store9 (.string A.name) (.int .i64 A.kind) (.int .i64 A.f) (.int .i64 A.i) (.string A.s) (.int .i64 A.ty) (.slice A.dv.a A.dv.n A.dv.c) (.slice A.tv.a A.tv.n A.tv.c) (.slice A.iv.a A.iv.n A.iv.c) (grown_trans g0 g02) (show w.heap.size ≤ w1.heap.size by have := g01.size; have := HZ0.out; omega) kz2
      have HX := hide hX
      have GX := hide gX
      clear hX gX
      go_wp2_with fail
      go_meet
      exact ⟨_, rfl, rfl, HX.out, GX.out⟩
    · obtain ⟨hX, gX⟩ := store9 (.string A.name) (.int .i64 A.kind) (.int .i64 A.f) (.int .i64 A.i) (.string A.s) (.int .i64 A.ty) (.slice A.dv.a A.dv.n A.dv.c) (.slice A.tv.a A.tv.n A.tv.c) (.slice A.iv.a A.iv.n A.iv.c) (grown_trans g0 g02) (show w.heap.size ≤ w0.heap.size by have := HZ0.out; omega) kz2
      have HX := hide hX
      have GX := hide gX
      clear hX gX
      go_wp2_with fail
      go_meet
      exact ⟨_, rfl, rfl, HX.out, GX.out⟩
  case rest =>
    obtain ⟨N, rfl, rfl, hN, hg⟩ := hcut
    obtain ⟨c0, c1, c2, c3, c4, c5, c6, c7, c8⟩ := atr_cells hN
    have HG := hide hg
    clear hN
    cases bA with
    | true =>
      have E : Hid (intV xs nm z = A.i) := HA5.out.1 rfl
      clear hg
      go_wp2
      go_ret
      exact ⟨by rw [E.out]; rfl, HG.out⟩
    | false =>
      have E : Hid (intV xs nm z = z) := HA5.out.2 rfl
      clear hg
      go_wp2
      go_ret
      exact ⟨by rw [E.out]; rfl, HG.out⟩

set_option maxRecDepth 100000 in
set_option maxHeartbeats 6400000 in
theorem sbits_any (n : Nod) (xs : List Atr) (cs : List Cont) (nm : ByteArray) (z : Int) (w : World) (hv : IsAttrs w n.av.v xs) (hc : ∀ (j : Nat) (a : Atr), xs[j]? = some a → ∃ c, cs[j]? = some c ∧ Has w a c) :
    Calls Tryz.prog 34 #[nval n, .string nm, .int .i64 z] w fun e w' => e = .returned (.int .i64 (bitsV xs nm z)) ∧ w.grownBy w' none := by
  have FN := hide (fun (p q : Nat) (wx : World) (hg : w.grownBy wx none) (hp : wx.heap[p]? = some (.cells #[.string nm] 9 (0, 0))) (hq : wx.heap[q]? = some (.cells #[.int .i64 1] 3 (0, 0))) => first_named n xs p q nm 1 wx (hv.more hg) hp hq)
  obtain ⟨A, bA, cA, hA1, hA2, hA3, hA4⟩ := found_of (nm := nm) (kd := 1) hc
  rw [hA1, hA2] at FN
  have HA3 := hide hA3
  have HA4 := hide hA4
  clear hA1 hA2 hA3 hA4 hc
  have HA5 : Hid ((bA = true → bitsV xs nm z = A.f) ∧ (bA = false → bitsV xs nm z = z)) := ⟨fun h => by unfold bitsV; rw [(HA4.out.1 h).1], fun h => by unfold bitsV; rw [(HA4.out.2 h).1]⟩
  clear HA3 HA4
  obtain ⟨op, nam, ⟨ia, il, ic⟩, out, ⟨ao, al, cap⟩⟩ := n
  unfold nval at FN ⊢
  unfold aval at FN
  simp only at FN ⊢
  clear hv
  obtain ⟨w0, hw0⟩ : ∃ w0, w0 = w.alloc (.cells #[.string op, .string nam, .slice ia il ic, .string out, .slice ao al cap] 25) := ⟨_, rfl⟩
  have g0 : w.grownBy w0 none := by rw [hw0]; exact grown_new _ _
  have hb0 := heap_alloc_new w (.cells #[.string op, .string nam, .slice ia il ic, .string out, .slice ao al cap] 25)
  rw [← hw0] at hb0
  have HZ0 : Hid (w0.heap.size = w.heap.size + 1) := by rw [hw0]; simp [Hid]
  have BX : Hid (∀ wx, w0.grownBy wx none → wx.heap[w.heap.size]? = some (.cells #[.string op, .string nam, .slice ia il ic, .string out, .slice ao al cap] 25 (0, 0))) := fun wx hg => box_kept hb0 hg
  clear hb0
  go_enter Tryz.func34, Tryz.ntmps34
  go_wp2_with fail
  rw [← hw0]
  clear hw0
  go_cut [7, 8] from 9 to 15 (fun p b wx => ∃ N : Nat, p = .pointer (some ⟨N, 0, none⟩) ∧ b = .bool bA ∧ wx.heap[N]? = some (.cells #[.string A.name, .int .i64 A.kind, .int .i64 A.f, .int .i64 A.i, .string A.s, .int .i64 A.ty, .slice A.dv.a A.dv.n A.dv.c, .slice A.tv.a A.tv.n A.tv.c, .slice A.iv.a A.iv.n A.iv.c] 92 (0, 0)) ∧ w.grownBy wx none)
  case first =>
    obtain ⟨n0, n1, n2, n3, n4⟩ := nod_cells (n := ⟨op, nam, ⟨ia, il, ic⟩, out, ⟨ao, al, cap⟩⟩) (BX.out w0 (grown_refl _))
    have gd := grown_drew (grown_refl w0)
    go_region_held3 (fun w' => w'.cell? ⟨w.heap.size, 0, none⟩ = some (.string op) ∧ w'.cell? ⟨w.heap.size, 1, none⟩ = some (.string nam) ∧ w'.cell? ⟨w.heap.size, 2, none⟩ = some (.slice ia il ic) ∧ w'.cell? ⟨w.heap.size, 3, none⟩ = some (.string out) ∧ w'.cell? ⟨w.heap.size, 4, none⟩ = some (.slice ao al cap)) (go_keep) (first | (go_at_call 58; refine (named_any _ _ _).mono ?_; rintro e w1 ⟨rfl, hp1, hq1, hg1⟩; have g01 : w0.grownBy w1 none := (by first | exact grown_trans gd hg1 | exact grown_trans (grown_trans gd (grown_new _ _)) hg1); obtain ⟨n0, n1, n2, n3, n4⟩ := nod_cells (n := ⟨op, nam, ⟨ia, il, ic⟩, out, ⟨ao, al, cap⟩⟩) (BX.out w1 g01); have hz1 : w.heap.size ≠ w1.heap.size := (by have := g01.size; have := HZ0.out; omega); have hzz : w.heap.size ≠ w0.heap.size := (by have := HZ0.out; omega); have hz1' := hz1.symm; have hzz' := hzz.symm; try (have hp2 : w1.heap[w0.heap.size + 1]? = some (.cells #[.string nm] 9 (0, 0)) := (by have h := hp1; rw [show ((w0.alloc (.cells #[.string ⟨#[]⟩, .int .i64 0, .int .i64 0, .int .i64 0, .string ⟨#[]⟩, .int .i64 0, .slice none 0 0, .slice none 0 0, .slice none 0 0] 92)).drew).heap.size = w0.heap.size + 1 by simp] at h; exact h)); try (have hq2 : w1.heap[w0.heap.size + 1 + 1]? = some (.cells #[.int .i64 1] 3 (0, 0)) := (by have h := hq1; rw [show ((w0.alloc (.cells #[.string ⟨#[]⟩, .int .i64 0, .int .i64 0, .int .i64 0, .string ⟨#[]⟩, .int .i64 0, .slice none 0 0, .slice none 0 0, .slice none 0 0] 92)).drew).heap.size = w0.heap.size + 1 by simp] at h; exact h)); try (have kz : w1.heap[w0.heap.size]? = some (.cells #[.string ⟨#[]⟩, .int .i64 0, .int .i64 0, .int .i64 0, .string ⟨#[]⟩, .int .i64 0, .slice none 0 0, .slice none 0 0, .slice none 0 0] 92 (0, 0)) := box_kept (show ((w0.alloc (.cells #[.string ⟨#[]⟩, .int .i64 0, .int .i64 0, .int .i64 0, .string ⟨#[]⟩, .int .i64 0, .slice none 0 0, .slice none 0 0, .slice none 0 0] 92)).drew).heap[w0.heap.size]? = _ from heap_alloc_new w0 _) hg1)) | (go_at_call 57; refine (FN.out _ _ _ (by first | exact grown_trans g0 g01 | exact grown_trans (grown_trans g0 g01) (grown_new _ _)) (by first | exact hp1 | exact hp2 | exact box_kept hp1 (grown_new _ _)) (by first | exact hq1 | exact hq2 | exact box_kept hq1 (grown_new _ _))).mono ?_; rintro e w2 ⟨rfl, hg2⟩; have g02 : w0.grownBy w2 none := (by first | exact grown_trans g01 hg2 | exact grown_trans (grown_trans g01 (grown_new _ _)) hg2); obtain ⟨n0, n1, n2, n3, n4⟩ := nod_cells (n := ⟨op, nam, ⟨ia, il, ic⟩, out, ⟨ao, al, cap⟩⟩) (BX.out w2 g02); try (first | have kz2 := box_kept kz hg2 | have kz2 : w2.heap[w1.heap.size]? = some (.cells #[.string ⟨#[]⟩, .int .i64 0, .int .i64 0, .int .i64 0, .string ⟨#[]⟩, .int .i64 0, .slice none 0 0, .slice none 0 0, .slice none 0 0] 92 (0, 0)) := box_kept (heap_alloc_new w1 _) hg2); try (obtain ⟨f0, f1, f2, f3, f4, f5, f6, f7, f8⟩ := atr_frozen kz2); try (obtain ⟨k0, k1, k2, k3, k4, k5, k6, k7, k8⟩ := atr_cells (a := noAtr) kz2)))
    · have GG := hide (grown_trans g0 g02)
      go_wp2_with fail
      go_meet
      exact ⟨_, rfl, rfl, heap_alloc_new w2 _, grown_trans GG.out (grown_new w2 _)⟩
    · obtain ⟨hX, gX⟩ := store9 (.string A.name) (.int .i64 A.kind) (.int .i64 A.f) (.int .i64 A.i) (.string A.s) (.int .i64 A.ty) (.slice A.dv.a A.dv.n A.dv.c) (.slice A.tv.a A.tv.n A.tv.c) (.slice A.iv.a A.iv.n A.iv.c) (grown_trans g0 g02) (show w.heap.size ≤ w1.heap.size by have := g01.size; have := HZ0.out; omega) kz2
      have HX := hide hX
      have GX := hide gX
      clear hX gX
      go_wp2_with fail
      go_meet
      exact ⟨_, rfl, rfl, HX.out, GX.out⟩
    · obtain ⟨hX, gX⟩ := store9 (.string A.name) (.int .i64 A.kind) (.int .i64 A.f) (.int .i64 A.i) (.string A.s) (.int .i64 A.ty) (.slice A.dv.a A.dv.n A.dv.c) (.slice A.tv.a A.tv.n A.tv.c) (.slice A.iv.a A.iv.n A.iv.c) (grown_trans g0 g02) (show w.heap.size ≤ w0.heap.size by have := HZ0.out; omega) kz2
      have HX := hide hX
      have GX := hide gX
      clear hX gX
      go_wp2_with fail
      go_meet
      exact ⟨_, rfl, rfl, HX.out, GX.out⟩
  case rest =>
    obtain ⟨N, rfl, rfl, hN, hg⟩ := hcut
    obtain ⟨c0, c1, c2, c3, c4, c5, c6, c7, c8⟩ := atr_cells hN
    have HG := hide hg
    clear hN
    cases bA with
    | true =>
      have E : Hid (bitsV xs nm z = A.f) := HA5.out.1 rfl
      clear hg
      go_wp2
      go_ret
      exact ⟨by rw [E.out]; rfl, HG.out⟩
    | false =>
      have E : Hid (bitsV xs nm z = z) := HA5.out.2 rfl
      clear hg
      go_wp2
      go_ret
      exact ⟨by rw [E.out]; rfl, HG.out⟩
end Go.Proofs.YteigfipgmghgmaaGreatDoor
