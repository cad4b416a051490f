/- Joined texts: NReads, NRNum. -/
import Derived.Test.YtdcbjikjeicgbaaGreatDoorPartC
import Derived.Test.YtdcbjikjeicgbaaGreatDoorPartB
import Derived.Test.YtdcbjikjeicgbaaGreatDoorPartE
/- An attribute's value, or what stands for it, by the walk (mkReads.py). -/
namespace Go.Proofs.YtdcbjikjeicgbaaGreatDoor
open Go.RowKit

/-- The numbers of the attribute that is so called, or others. -/
def intsV (xs : List Atr) (cs : List Cont) (nm : ByteArray) (zs : List Int) : List Int := match (xs.zip cs).find? (fun p => isA nm 7 p.1) with
  | some p => p.2.i
  | none => zs

def intV (xs : List Atr) (nm : ByteArray) (z : Int) : Int := match xs.find? (isA nm 2) with
  | some a => a.i
  | none => z

def bitsV (xs : List Atr) (nm : ByteArray) (z : Int) : Int := match xs.find? (isA nm 1) with
  | some a => a.f
  | none => z

theorem found_of {w : World} {xs : List Atr} {cs : List Cont} {nm : ByteArray} {kd : Int} (hc : ∀ (j : Nat) (a : Atr), xs[j]? = some a → ∃ c, cs[j]? = some c ∧ Has w a c) :
    ∃ (A : Atr) (b : Bool) (c : Cont), (xs.find? (isA nm kd)).getD noAtr = A ∧ (xs.find? (isA nm kd)).isSome = b ∧ (b = true → Has w A c) ∧ ((b = true → xs.find? (isA nm kd) = some A ∧ (xs.zip cs).find? (fun p => isA nm kd p.1) = some (A, c)) ∧ (b = false → xs.find? (isA nm kd) = none ∧ (xs.zip cs).find? (fun p => isA nm kd p.1) = none)) := by
  rcases find_zip (P := isA nm kd) hc with ⟨e1, e2⟩ | ⟨a, c, e1, e2, e3⟩
  · exact ⟨noAtr, false, ⟨[], [], []⟩, by rw [e1]; rfl, by rw [e1]; rfl, (fun h => by cases h), (fun h => by cases h), fun _ => ⟨e1, e2⟩⟩
  · exact ⟨a, true, c, by rw [e1]; rfl, by rw [e1]; rfl, (fun _ => e3), (fun _ => ⟨e1, e2⟩), (fun h => by cases h)⟩

theorem owns_empty (w : World) (te : TypeId) : OwnsL te 1 icell (w.alloc (.cells #[] te)) w.heap.size (.slice (some ⟨w.heap.size, 0, none⟩) 0 0) [] :=
  ⟨rfl, .inr ⟨w.heap.size, 0, #[], rfl, Nat.le_refl _, heap_alloc_new w _, Nat.le_refl _, by simp [maxLen], rfl, rfl⟩⟩

theorem eql_nil (w : World) (a : Option Addr) (l c : Nat) : (binOp .eql 53 (.slice a l c) (.slice none 0 0)).run Tryz.prog w = .ok (.bool a.isNone) w := by
  cases a <;> kernel_rfl

set_option maxRecDepth 100000 in
theorem clone_any (v : Value) (zs : List Int) (w : World) (h : IsInts w v zs) :
    Calls Tryz.prog 178 #[v] w fun e w' => ∃ u : Sl, e = .returned u.v ∧ OwnsL 2 1 icell w' w.heap.size u.v zs ∧ w.grownBy w' none := by
  obtain ⟨i0, hi, hz0, hz1, hz2⟩ := info_parts infoI64
  have H := hide (isL_ints h)
  obtain ⟨ao, cap, rfl, h1, h2, h3, h4, h5, h6⟩ := h
  cases ao with
  | none =>
    obtain ⟨rfl, rfl⟩ := h4 rfl
    have q := eql_nil w none 0 0
    go_enter Tryz.func178, Tryz.ntmps178
    go_wp2
    go_ret
    exact ⟨⟨none, 0, 0⟩, rfl, OwnsL.nil .., grown_refl _⟩
  | some ad =>
    clear h4 h6
    have H5 := hide h5
    clear h5
    have hnews : Hid (∀ o, ∀ j u, (zs.map (Value.int .i64))[j]? = some u → (w.alloc o).cell? (ad.add j) = some u) := by
      intro o j u hu
      have hj : j < zs.length := by have := (List.getElem?_eq_some_iff.1 hu).1; simpa using this
      obtain ⟨b, off, e, hc⟩ := H5.out (by omega)
      obtain rfl := Option.some.inj e
      rw [Addr.add_lit]
      refine cell_still ?_ (grown_new w o)
      rw [hc j hj]
      rw [List.getElem?_map, List.getElem?_eq_getElem hj] at hu
      simpa [List.getD, hj] using hu
    have q := eql_nil w (some ad) zs.length cap
    have OE := hide (owns_empty w 2)
    go_enter Tryz.func178, Tryz.ntmps178
    go_wp2_with (at_builtin; refine wpList_append_own _ rfl (.tmp 5) (.tmp 6) 53 rfl w.heap.size 2 i0 (.int .i64 0) 1 8 Tryz.underlying53 hi hz0 hz1 hz2 rfl (by decide) (.slice (some ⟨w.heap.size, 0, none⟩) 0 0) 0 [] rfl (by exact OE.out) ad zs.length cap (zs.map (Value.int .i64)) rfl (by simp) (by exact hnews.out _) (by intro u hu; obtain ⟨z, -, rfl⟩ := List.mem_map.1 hu; rfl) (by simp only [maxLen]; omega) (by omega) (by simp) ?_; intro v' w1 hown hgrow _)
    have o2 : OwnsL 2 1 icell w1 w.heap.size v' zs := by
      unfold OwnsL
      rw [icells]
      simpa using hown
    have HO := hide o2
    obtain ⟨xa, xc, rfl⟩ := OwnsL.form o2
    have HG : Hid (w.grownBy w1 none) := grown_trans_row (grown_new w (.cells #[] 2)) hgrow (fun r e => by have h : w.heap.size = r := Option.some.inj e; omega)
    clear o2 hown hgrow
    go_ret
    exact ⟨⟨xa, zs.length, xc⟩, rfl, HO.out, HG.out⟩

set_option maxRecDepth 100000 in
set_option maxHeartbeats 6400000 in
theorem sints_any (n : Nod) (xs : List Atr) (cs : List Cont) (nm : ByteArray) (other : Sl) (zs : List Int) (w : World) (hv : IsAttrs w n.av.v xs) (hc : ∀ (j : Nat) (a : Atr), xs[j]? = some a → ∃ c, cs[j]? = some c ∧ Has w a c) (ho : IsInts w other.v zs) :
    Calls Tryz.prog 101 #[nval n, .string nm, .slice other.a other.n other.c] w fun e w' => ∃ u : Sl, e = .returned u.v ∧ OwnsL 2 1 icell w' w.heap.size u.v (intsV xs cs nm zs) ∧ w.grownBy w' none := by
  have FN := hide (fun (p q : Nat) (wx : World) (hg : w.grownBy wx none) (hp : wx.heap[p]? = some (.cells #[.string nm] 9 (0, 0))) (hq : wx.heap[q]? = some (.cells #[.int .i64 7] 3 (0, 0))) => first_named n xs p q nm 7 wx (hv.more hg) hp hq)
  obtain ⟨A, bA, cA, hA1, hA2, hA3, hA4⟩ := found_of (nm := nm) (kd := 7) hc
  rw [hA1, hA2] at FN
  have HA3 := hide hA3
  have HA4 := hide hA4
  clear hA1 hA2 hA3 hA4 hc
  have HO := hide ho
  have HA5 : Hid ((bA = true → intsV xs cs nm zs = cA.i) ∧ (bA = false → intsV xs cs nm zs = zs)) := ⟨fun h => by unfold intsV; rw [(HA4.out.1 h).2], fun h => by unfold intsV; rw [(HA4.out.2 h).2]⟩
  clear HA4 ho
  obtain ⟨op, nam, ⟨ia, il, ic⟩, out, ⟨ao, al, cap⟩⟩ := n
  unfold nval at FN ⊢
  unfold aval at FN
  simp only at FN ⊢
  clear hv
  obtain ⟨w0, hw0⟩ : ∃ w0, w0 = w.alloc (.cells #[.string op, .string nam, .slice ia il ic, .string out, .slice ao al cap] 25) := ⟨_, rfl⟩
  have g0 : w.grownBy w0 none := by rw [hw0]; exact grown_new _ _
  have hb0 := heap_alloc_new w (.cells #[.string op, .string nam, .slice ia il ic, .string out, .slice ao al cap] 25)
  rw [← hw0] at hb0
  have HZ0 : Hid (w0.heap.size = w.heap.size + 1) := by rw [hw0]; simp [Hid]
  have BX : Hid (∀ wx, w0.grownBy wx none → wx.heap[w.heap.size]? = some (.cells #[.string op, .string nam, .slice ia il ic, .string out, .slice ao al cap] 25 (0, 0))) := fun wx hg => box_kept hb0 hg
  clear hb0
  go_enter Tryz.func101, Tryz.ntmps101
  go_wp2_with fail
  rw [← hw0]
  clear hw0
  go_cut [7, 8] from 9 to 15 (fun p b wx => ∃ N : Nat, p = .pointer (some ⟨N, 0, none⟩) ∧ b = .bool bA ∧ wx.heap[N]? = some (.cells #[.string A.name, .int .i64 A.kind, .int .i64 A.f, .int .i64 A.i, .string A.s, .int .i64 A.ty, .slice A.dv.a A.dv.n A.dv.c, .slice A.tv.a A.tv.n A.tv.c, .slice A.iv.a A.iv.n A.iv.c] 57 (0, 0)) ∧ w.grownBy wx none)
  case first =>
    obtain ⟨n0, n1, n2, n3, n4⟩ := nod_cells (n := ⟨op, nam, ⟨ia, il, ic⟩, out, ⟨ao, al, cap⟩⟩) (BX.out w0 (grown_refl _))
    have gd := grown_drew (grown_refl w0)
    go_region_held3 (fun w' => w'.cell? ⟨w.heap.size, 0, none⟩ = some (.string op) ∧ w'.cell? ⟨w.heap.size, 1, none⟩ = some (.string nam) ∧ w'.cell? ⟨w.heap.size, 2, none⟩ = some (.slice ia il ic) ∧ w'.cell? ⟨w.heap.size, 3, none⟩ = some (.string out) ∧ w'.cell? ⟨w.heap.size, 4, none⟩ = some (.slice ao al cap)) (go_keep) (first | (go_at_call 87; refine (named_any _ _ _).mono ?_; rintro e w1 ⟨rfl, hp1, hq1, hg1⟩; have g01 : w0.grownBy w1 none := (by first | exact grown_trans gd hg1 | exact grown_trans (grown_trans gd (grown_new _ _)) hg1); obtain ⟨n0, n1, n2, n3, n4⟩ := nod_cells (n := ⟨op, nam, ⟨ia, il, ic⟩, out, ⟨ao, al, cap⟩⟩) (BX.out w1 g01); have hz1 : w.heap.size ≠ w1.heap.size := (by have := g01.size; have := HZ0.out; omega); have hzz : w.heap.size ≠ w0.heap.size := (by have := HZ0.out; omega); have hz1' := hz1.symm; have hzz' := hzz.symm; try (have hp2 : w1.heap[w0.heap.size + 1]? = some (.cells #[.string nm] 9 (0, 0)) := (by have h := hp1; rw [show ((w0.alloc (.cells #[.string ⟨#[]⟩, .int .i64 0, .int .i64 0, .int .i64 0, .string ⟨#[]⟩, .int .i64 0, .slice none 0 0, .slice none 0 0, .slice none 0 0] 57)).drew).heap.size = w0.heap.size + 1 by simp] at h; exact h)); try (have hq2 : w1.heap[w0.heap.size + 1 + 1]? = some (.cells #[.int .i64 7] 3 (0, 0)) := (by have h := hq1; rw [show ((w0.alloc (.cells #[.string ⟨#[]⟩, .int .i64 0, .int .i64 0, .int .i64 0, .string ⟨#[]⟩, .int .i64 0, .slice none 0 0, .slice none 0 0, .slice none 0 0] 57)).drew).heap.size = w0.heap.size + 1 by simp] at h; exact h)); try (have kz : w1.heap[w0.heap.size]? = some (.cells #[.string ⟨#[]⟩, .int .i64 0, .int .i64 0, .int .i64 0, .string ⟨#[]⟩, .int .i64 0, .slice none 0 0, .slice none 0 0, .slice none 0 0] 57 (0, 0)) := box_kept (show ((w0.alloc (.cells #[.string ⟨#[]⟩, .int .i64 0, .int .i64 0, .int .i64 0, .string ⟨#[]⟩, .int .i64 0, .slice none 0 0, .slice none 0 0, .slice none 0 0] 57)).drew).heap[w0.heap.size]? = _ from heap_alloc_new w0 _) hg1)) | (go_at_call 86; refine (FN.out _ _ _ (by first | exact grown_trans g0 g01 | exact grown_trans (grown_trans g0 g01) (grown_new _ _)) (by first | exact hp1 | exact hp2 | exact box_kept hp1 (grown_new _ _)) (by first | exact hq1 | exact hq2 | exact box_kept hq1 (grown_new _ _))).mono ?_; rintro e w2 ⟨rfl, hg2⟩; have g02 : w0.grownBy w2 none := (by first | exact grown_trans g01 hg2 | exact grown_trans (grown_trans g01 (grown_new _ _)) hg2); obtain ⟨n0, n1, n2, n3, n4⟩ := nod_cells (n := ⟨op, nam, ⟨ia, il, ic⟩, out, ⟨ao, al, cap⟩⟩) (BX.out w2 g02); try (first | have kz2 := box_kept kz hg2 | have kz2 : w2.heap[w1.heap.size]? = some (.cells #[.string ⟨#[]⟩, .int .i64 0, .int .i64 0, .int .i64 0, .string ⟨#[]⟩, .int .i64 0, .slice none 0 0, .slice none 0 0, .slice none 0 0] 57 (0, 0)) := box_kept (heap_alloc_new w1 _) hg2); try (obtain ⟨f0, f1, f2, f3, f4, f5, f6, f7, f8⟩ := atr_frozen kz2); try (obtain ⟨k0, k1, k2, k3, k4, k5, k6, k7, k8⟩ := atr_cells (a := noAtr) kz2)))
    · have GG := hide (grown_trans g0 g02)
      go_wp2_with fail
      go_meet
      exact ⟨_, rfl, rfl, heap_alloc_new w2 _, grown_trans GG.out (grown_new w2 _)⟩
    · obtain ⟨hX, gX⟩ := store9 (.string A.name) (.int .i64 A.kind) (.int .i64 A.f) (.int .i64 A.i) (.string A.s) (.int .i64 A.ty) (.slice A.dv.a A.dv.n A.dv.c) (.slice A.tv.a A.tv.n A.tv.c) (.slice A.iv.a A.iv.n A.iv.c) (grown_trans g0 g02) (show w.heap.size ≤ w1.heap.size by have := g01.size; have := HZ0.out; omega) kz2
      have HX := hide hX
      have GX := hide gX
      clear hX gX
      go_wp2_with fail
      go_meet
      exact ⟨_, rfl, rfl, HX.out, GX.out⟩
    · obtain ⟨hX, gX⟩ := store9 (.string A.name) (.int .i64 A.kind) (.int .i64 A.f) (.int .i64 A.i) (.string A.s) (.int .i64 A.ty) (.slice A.dv.a A.dv.n A.dv.c) (.slice A.tv.a A.tv.n A.tv.c) (.slice A.iv.a A.iv.n A.iv.c) (grown_trans g0 g02) (show w.heap.size ≤ w0.heap.size by have := HZ0.out; omega) kz2
      have HX := hide hX
      have GX := hide gX
      clear hX gX
      go_wp2_with fail
      go_meet
      exact ⟨_, rfl, rfl, HX.out, GX.out⟩
  case rest =>
    obtain ⟨N, rfl, rfl, hN, hg⟩ := hcut
    obtain ⟨c0, c1, c2, c3, c4, c5, c6, c7, c8⟩ := atr_cells hN
    have HG := hide hg
    clear hN
    cases bA with
    | true =>
      have E : Hid (intsV xs cs nm zs = cA.i) := HA5.out.1 rfl
      have CL := hide (clone_any _ cA.i wc (HA3.out rfl |>.i.more hg))
      go_wp2_with fail
      refine CL.out.mono ?_
      rintro e w3 ⟨u, rfl, hu, hg3⟩
      go_wp2
      go_ret
      exact ⟨u, rfl, by rw [E.out]; exact hu.base_le HG.out.size, grown_trans HG.out hg3⟩
    | false =>
      have E : Hid (intsV xs cs nm zs = zs) := HA5.out.2 rfl
      have CL := hide (clone_any _ zs wc (HO.out.more hg))
      go_wp2_with fail
      refine CL.out.mono ?_
      rintro e w3 ⟨u, rfl, hu, hg3⟩
      go_wp2
      go_ret
      exact ⟨u, rfl, by rw [E.out]; exact hu.base_le HG.out.size, grown_trans HG.out hg3⟩

set_option maxRecDepth 100000 in
set_option maxHeartbeats 6400000 in
theorem sint_any (n : Nod) (xs : List Atr) (cs : List Cont) (nm : ByteArray) (z : Int) (w : World) (hv : IsAttrs w n.av.v xs) (hc : ∀ (j : Nat) (a : Atr), xs[j]? = some a → ∃ c, cs[j]? = some c ∧ Has w a c) :
    Calls Tryz.prog 93 #[nval n, .string nm, .int .i64 z] w fun e w' => e = .returned (.int .i64 (intV xs nm z)) ∧ w.grownBy w' none := by
  have FN := hide (fun (p q : Nat) (wx : World) (hg : w.grownBy wx none) (hp : wx.heap[p]? = some (.cells #[.string nm] 9 (0, 0))) (hq : wx.heap[q]? = some (.cells #[.int .i64 2] 3 (0, 0))) => first_named n xs p q nm 2 wx (hv.more hg) hp hq)
  obtain ⟨A, bA, cA, hA1, hA2, hA3, hA4⟩ := found_of (nm := nm) (kd := 2) hc
  rw [hA1, hA2] at FN
  have HA3 := hide hA3
  have HA4 := hide hA4
  clear hA1 hA2 hA3 hA4 hc
  have HA5 : Hid ((bA = true → intV xs nm z = A.i) ∧ (bA = false → intV xs nm z = z)) := ⟨fun h => by unfold intV; rw [(HA4.out.1 h).1], fun h => by unfold intV; rw [(HA4.out.2 h).1]⟩
  clear HA3 HA4
  obtain ⟨op, nam, ⟨ia, il, ic⟩, out, ⟨ao, al, cap⟩⟩ := n
  unfold nval at FN ⊢
  unfold aval at FN
  simp only at FN ⊢
  clear hv
  obtain ⟨w0, hw0⟩ : ∃ w0, w0 = w.alloc (.cells #[.string op, .string nam, .slice ia il ic, .string out, .slice ao al cap] 25) := ⟨_, rfl⟩
  have g0 : w.grownBy w0 none := by rw [hw0]; exact grown_new _ _
  have hb0 := heap_alloc_new w (.cells #[.string op, .string nam, .slice ia il ic, .string out, .slice ao al cap] 25)
  rw [← hw0] at hb0
  have HZ0 : Hid (w0.heap.size = w.heap.size + 1) := by rw [hw0]; simp [Hid]
  have BX : Hid (∀ wx, w0.grownBy wx none → wx.heap[w.heap.size]? = some (.cells #[.string op, .string nam, .slice ia il ic, .string out, .slice ao al cap] 25 (0, 0))) := fun wx hg => box_kept hb0 hg
  clear hb0
  go_enter Tryz.func93, Tryz.ntmps93
  go_wp2_with fail
  rw [← hw0]
  clear hw0
  go_cut [7, 8] from 9 to 15 (fun p b wx => ∃ N : Nat, p = .pointer (some ⟨N, 0, none⟩) ∧ b = .bool bA ∧ wx.heap[N]? = some (.cells #[.string A.name, .int .i64 A.kind, .int .i64 A.f, .int .i64 A.i, .string A.s, .int .i64 A.ty, .slice A.dv.a A.dv.n A.dv.c, .slice A.tv.a A.tv.n A.tv.c, .slice A.iv.a A.iv.n A.iv.c] 57 (0, 0)) ∧ w.grownBy wx none)
  case first =>
    obtain ⟨n0, n1, n2, n3, n4⟩ := nod_cells (n := ⟨op, nam, ⟨ia, il, ic⟩, out, ⟨ao, al, cap⟩⟩) (BX.out w0 (grown_refl _))
    have gd := grown_drew (grown_refl w0)
    go_region_held3 (fun w' => w'.cell? ⟨w.heap.size, 0, none⟩ = some (.string op) ∧ w'.cell? ⟨w.heap.size, 1, none⟩ = some (.string nam) ∧ w'.cell? ⟨w.heap.size, 2, none⟩ = some (.slice ia il ic) ∧ w'.cell? ⟨w.heap.size, 3, none⟩ = some (.string out) ∧ w'.cell? ⟨w.heap.size, 4, none⟩ = some (.slice ao al cap)) (go_keep) (first | (go_at_call 87; refine (named_any _ _ _).mono ?_; rintro e w1 ⟨rfl, hp1, hq1, hg1⟩; have g01 : w0.grownBy w1 none := (by first | exact grown_trans gd hg1 | exact grown_trans (grown_trans gd (grown_new _ _)) hg1); obtain ⟨n0, n1, n2, n3, n4⟩ := nod_cells (n := ⟨op, nam, ⟨ia, il, ic⟩, out, ⟨ao, al, cap⟩⟩) (BX.out w1 g01); have hz1 : w.heap.size ≠ w1.heap.size := (by have := g01.size; have := HZ0.out; omega); have hzz : w.heap.size ≠ w0.heap.size := (by have := HZ0.out; omega); have hz1' := hz1.symm; have hzz' := hzz.symm; try (have hp2 : w1.heap[w0.heap.size + 1]? = some (.cells #[.string nm] 9 (0, 0)) := (by have h := hp1; rw [show ((w0.alloc (.cells #[.string ⟨#[]⟩, .int .i64 0, .int .i64 0, .int .i64 0, .string ⟨#[]⟩, .int .i64 0, .slice none 0 0, .slice none 0 0, .slice none 0 0] 57)).drew).heap.size = w0.heap.size + 1 by simp] at h; exact h)); try (have hq2 : w1.heap[w0.heap.size + 1 + 1]? = some (.cells #[.int .i64 2] 3 (0, 0)) := (by have h := hq1; rw [show ((w0.alloc (.cells #[.string ⟨#[]⟩, .int .i64 0, .int .i64 0, .int .i64 0, .string ⟨#[]⟩, .int .i64 0, .slice none 0 0, .slice none 0 0, .slice none 0 0] 57)).drew).heap.size = w0.heap.size + 1 by simp] at h; exact h)); try (have kz : w1.heap[w0.heap.size]? = some (.cells #[.string ⟨#[]⟩, .int .i64 0, .int .i64 0, .int .i64 0, .string ⟨#[]⟩, .int .i64 0, .slice none 0 0, .slice none 0 0, .slice none 0 0] 57 (0, 0)) := box_kept (show ((w0.alloc (.cells #[.string ⟨#[]⟩, .int .i64 0, .int .i64 0, .int .i64 0, .string ⟨#[]⟩, .int .i64 0, .slice none 0 0, .slice none 0 0, .slice none 0 0] 57)).drew).heap[w0.heap.size]? = _ from heap_alloc_new w0 _) hg1)) | (go_at_call 86; refine (FN.out _ _ _ (by first | exact grown_trans g0 g01 | exact grown_trans (grown_trans g0 g01) (grown_new _ _)) (by first | exact hp1 | exact hp2 | exact box_kept hp1 (grown_new _ _)) (by first | exact hq1 | exact hq2 | exact box_kept hq1 (grown_new _ _))).mono ?_; rintro e w2 ⟨rfl, hg2⟩; have g02 : w0.grownBy w2 none := (by first | exact grown_trans g01 hg2 | exact grown_trans (grown_trans g01 (grown_new _ _)) hg2); obtain ⟨n0, n1, n2, n3, n4⟩ := nod_cells (n := ⟨op, nam, ⟨ia, il, ic⟩, out, ⟨ao, al, cap⟩⟩) (BX.out w2 g02); try (first | have kz2 := box_kept kz hg2 | have kz2 : w2.heap[w1.heap.size]? = some (.cells #[.string ⟨#[]⟩, .int .i64 0, .int .i64 0, .int .i64 0, .string ⟨#[]⟩, .int .i64 0, .slice none 0 0, .slice none 0 0, .slice none 0 0] 57 (0, 0)) := box_kept (heap_alloc_new w1 _) hg2); try (obtain ⟨f0, f1, f2, f3, f4, f5, f6, f7, f8⟩ := atr_frozen kz2); try (obtain ⟨k0, k1, k2, k3, k4, k5, k6, k7, k8⟩ := atr_cells (a := noAtr) kz2)))
    · have GG := hide (grown_trans g0 g02)
      go_wp2_with fail
      go_meet
      exact ⟨_, rfl, rfl, heap_alloc_new w2 _, grown_trans GG.out (grown_new w2 _)⟩
    · obtain ⟨hX, gX⟩ := store9 (.string A.name) (.int .i64 A.kind) (.int .i64 A.f) (.int .i64 A.i) (.string A.s) (.int .i64 A.ty) (.slice A.dv.a A.dv.n A.dv.c) (.slice A.tv.a A.tv.n A.tv.c) (.slice A.iv.a A.iv.n A.iv.c) (grown_trans g0 g02) (show w.heap.size ≤ w1.heap.size by have := g01.size; have := HZ0.out; omega) kz2
      have HX := hide hX
      have GX := hide gX
      clear hX gX
      go_wp2_with fail
      go_meet
      exact ⟨_, rfl, rfl, HX.out, GX.out⟩
    · obtain ⟨hX, gX⟩ := store9 (.string A.name) (.int .i64 A.kind) (.int .i64 A.f) (.int .i64 A.i) (.string A.s) (.int .i64 A.ty) (.slice A.dv.a A.dv.n A.dv.c) (.slice A.tv.a A.tv.n A.tv.c) (.slice A.iv.a A.iv.n A.iv.c) (grown_trans g0 g02) (show w.heap.size ≤ w0.heap.size by have := HZ0.out; omega) kz2
      have HX := hide hX
      have GX := hide gX
      clear hX gX
      go_wp2_with fail
      go_meet
      exact ⟨_, rfl, rfl, HX.out, GX.out⟩
  case rest =>
    obtain ⟨N, rfl, rfl, hN, hg⟩ := hcut
    obtain ⟨c0, c1, c2, c3, c4, c5, c6, c7, c8⟩ := atr_cells hN
    have HG := hide hg
    clear hN
    cases bA with
    | true =>
      have E : Hid (intV xs nm z = A.i) := HA5.out.1 rfl
      clear hg
      go_wp2
      go_ret
      exact ⟨by rw [E.out]; rfl, HG.out⟩
    | false =>
      have E : Hid (intV xs nm z = z) := HA5.out.2 rfl
      clear hg
      go_wp2
      go_ret
      exact ⟨by rw [E.out]; rfl, HG.out⟩

end Go.Proofs.YtdcbjikjeicgbaaGreatDoor

/- Elements and tensors: the document's Check, by the walk. -/
namespace Go.Proofs.YtdcbjikjeicgbaaGreatDoor
open Go.RowKit

/-- A float's bits, of an element. -/
def fb (x : Int) : Nat := (x % 4294967296).toNat

theorem fb_lt (x : Int) : fb x < 4294967296 := by unfold fb; omega

theorem datum_order_self (d : Ieee.Datum) : d.order d = if d.isNaN then none else some .eq := by
  cases d <;> simp [Ieee.Datum.order, Ieee.Datum.isNaN]

theorem order_self (b : Nat) : FloatKind.f32.format.order b b = if (FloatKind.f32.format.read b).isNaN then none else some .eq := datum_order_self _

theorem read32_nan (b : Nat) (_h : b < 4294967296) : (FloatKind.f32.format.read b).isNaN = decide (2139095040 < b % 2147483648) := by
  have e1 : FloatKind.f32.format.signWeight = 2147483648 := rfl
  have e2 : FloatKind.f32.format.binade = 8388608 := rfl
  have e3 : FloatKind.f32.format.infRung = 2139095040 := rfl
  have e4 : FloatKind.f32.format.leastPlace = -149 := rfl
  unfold Ieee.Format.read
  simp only [e1, e2, e3, e4]
  split
  · simp [Ieee.Datum.isNaN]; omega
  · split
    · simp [Ieee.Datum.isNaN]; omega
    · split
      · simp [Ieee.Datum.isNaN]; omega
      · simp [Ieee.Datum.isNaN]; omega

theorem rchk1 (x : Int) (h0 : 0 ≤ x) (h1 : x < 4294967296) : chk 1 x = ((FloatKind.f32.format.order (fb x) (fb x) == some .eq) || x == 2143289344) := by
  rw [order_self, read32_nan _ (fb_lt x), chk_float 1 x rfl]
  have hf : (fb x : Int) = x := by unfold fb; omega
  by_cases hn : 2139095040 < fb x % 2147483648
  · rw [decide_eq_true hn]
    rw [Bool.eq_iff_iff]; simp; omega
  · rw [decide_eq_false hn]
    rw [Bool.eq_iff_iff]; simp; omega

theorem ext_from (n : Int) (w : World) : (callFunc 159 #[.int .u32 n]).run Tryz.prog w = .ok (.value (.float .f32 n.toNat)) w := by kernel_rfl

attribute [local go_sem] ext_from

set_option maxHeartbeats 400000 in
theorem rf_any (x : Int) (w : World) : Calls Tryz.prog 82 #[.int .i64 x] w fun e w' => e = .returned (.float .f32 (fb x)) ∧ w' = w := by
  go_enter Tryz.func82, Tryz.ntmps82
  go_wp2
  go_ret
  exact ⟨rfl, rfl⟩

set_option maxHeartbeats 400000 in
theorem rcheck_1 (x : Int) (w : World) : Calls Tryz.prog 41 #[.int .i64 1, .int .i64 x] w fun e w' => e = .returned (.bool (chk 1 x)) ∧ w' = w := by
  by_cases h0 : 0 ≤ x
  · by_cases h1 : x < 4294967296
    · rw [rchk1 x h0 h1]
      cases h : (FloatKind.f32.format.order (fb x) (fb x) == some .eq) with
      | true =>
        go_enter Tryz.func41, Tryz.ntmps41
        go_wp2_with (first | (go_at_call 82; refine (rf_any _ _).mono ?_; rintro e w' ⟨rfl, rfl⟩) | go_in)
        go_ret
        exact ⟨rfl, rfl⟩
      | false =>
        go_enter Tryz.func41, Tryz.ntmps41
        go_wp2_with (first | (go_at_call 82; refine (rf_any _ _).mono ?_; rintro e w' ⟨rfl, rfl⟩) | go_in)
        go_ret
        exact ⟨rfl, rfl⟩
    · have c : chk 1 x = false := by rw [chk_float 1 x rfl]; simp; omega
      rw [c]; clear c
      go_enter Tryz.func41, Tryz.ntmps41
      go_wp2_with (first | (go_at_call 82; refine (rf_any _ _).mono ?_; rintro e w' ⟨rfl, rfl⟩) | go_in)
      go_ret
      exact ⟨rfl, rfl⟩
  · have c : chk 1 x = false := by rw [chk_float 1 x rfl]; simp; omega
    rw [c]; clear c
    go_enter Tryz.func41, Tryz.ntmps41
    go_wp2_with (first | (go_at_call 82; refine (rf_any _ _).mono ?_; rintro e w' ⟨rfl, rfl⟩) | go_in)
    go_ret
    exact ⟨rfl, rfl⟩

set_option maxHeartbeats 400000 in
theorem rcheck_6 (x : Int) (w : World) : Calls Tryz.prog 41 #[.int .i64 6, .int .i64 x] w fun e w' => e = .returned (.bool (chk 6 x)) ∧ w' = w := by
  by_cases h0 : -2147483648 ≤ x
  · have c : chk 6 x = decide (x ≤ 2147483647) := by simp [chk, h0]
    rw [c]; clear c
    go_enter Tryz.func41, Tryz.ntmps41
    go_wp2
    go_ret
    exact ⟨rfl, rfl⟩
  · have c : chk 6 x = false := by simp [chk, h0]
    rw [c]; clear c
    go_enter Tryz.func41, Tryz.ntmps41
    go_wp2
    go_ret
    exact ⟨rfl, rfl⟩

set_option maxHeartbeats 400000 in
theorem rcheck_7 (x : Int) (w : World) : Calls Tryz.prog 41 #[.int .i64 7, .int .i64 x] w fun e w' => e = .returned (.bool (chk 7 x)) ∧ w' = w := by
  have c : chk 7 x = true := by simp [chk]
  rw [c]; clear c
  go_enter Tryz.func41, Tryz.ntmps41
  go_wp2
  go_ret
  exact ⟨rfl, rfl⟩

set_option maxHeartbeats 400000 in
theorem rcheck_9 (x : Int) (w : World) : Calls Tryz.prog 41 #[.int .i64 9, .int .i64 x] w fun e w' => e = .returned (.bool (chk 9 x)) ∧ w' = w := by
  by_cases h0 : x = 0
  · have c : chk 9 x = true := by simp [chk, h0]
    rw [c]; clear c; subst h0
    go_enter Tryz.func41, Tryz.ntmps41
    go_wp2
    go_ret
    exact ⟨rfl, rfl⟩
  · have c : chk 9 x = (x == 1) := by rw [Bool.eq_iff_iff]; simp [chk, h0]
    have h0' : (x == 0) = false := by simpa using h0
    rw [c]; clear c h0
    go_enter Tryz.func41, Tryz.ntmps41
    go_wp2
    go_ret
    exact ⟨rfl, rfl⟩

set_option maxHeartbeats 400000 in
theorem rcheck_no (t x : Int) (w : World) (h1 : (t == 1) = false) (h6 : (t == 6) = false) (h7 : (t == 7) = false) (h9 : (t == 9) = false) : Calls Tryz.prog 41 #[.int .i64 t, .int .i64 x] w fun e w' => e = .returned (.bool false) ∧ w' = w := by
  go_enter Tryz.func41, Tryz.ntmps41
  go_wp2
  go_ret
  exact ⟨rfl, rfl⟩

theorem rcheck_any (t x : Int) (w : World) : Calls Tryz.prog 41 #[.int .i64 t, .int .i64 x] w fun e w' => e = .returned (.bool (chk t x)) ∧ w' = w := by
  by_cases h1 : t = 1
  · subst h1; exact rcheck_1 x w
  · by_cases h6 : t = 6
    · subst h6; exact rcheck_6 x w
    · by_cases h7 : t = 7
      · subst h7; exact rcheck_7 x w
      · by_cases h9 : t = 9
        · subst h9; exact rcheck_9 x w
        · have c : chk t x = false := by simp [chk, h1, h6, h7, h9]
          rw [c]; exact rcheck_no t x w (by simpa using h1) (by simpa using h6) (by simpa using h7) (by simpa using h9)

theorem fOK_chk (f : Int) : fOK f = chk 1 f := by
  rw [chk_float 1 f rfl, fOK]
  by_cases h0 : 0 ≤ f
  · by_cases h1 : f < 4294967296
    · rw [andNot_i64 f h0 h1, Bool.eq_iff_iff]
      simp [h0, h1]
    · rw [Bool.eq_iff_iff]; simp [h1]
  · rw [Bool.eq_iff_iff]; simp [h0]

theorem rtyped_any (t : Int) (w : World) : Calls Tryz.prog 22 #[.int .i64 t] w fun e w' => e = .returned (.bool (chk t 0)) ∧ w' = w := by
  go_enter Tryz.func22, Tryz.ntmps22
  go_wp2_with fail
  refine (rcheck_any t 0 w).mono ?_
  rintro e w' ⟨rfl, rfl⟩
  go_wp2
  go_ret
  exact ⟨rfl, rfl⟩

set_option maxRecDepth 100000 in
set_option maxHeartbeats 1600000 in
theorem rpbcheck_any (ty : Int) (dv tv : Value) (ds ts : List Int) (w : World) (hd : IsInts w dv ds) (ht : IsInts w tv ts) :
    Calls Tryz.prog 56 #[.agg #[.int .i64 ty, dv, tv]] w fun e w' => e = .returned (.int .i64 (pbE ty ds ts)) ∧ w.grownBy w' none := by
  have HD := hide hd
  have HT := hide ht
  obtain ⟨da, dc, rfl, -⟩ := hd
  obtain ⟨ta, tc, rfl, t1, t2, t3, -, t5, -⟩ := ht
  have T5 := hide t5
  clear t5
  obtain ⟨w0, hw0⟩ : ∃ w0, w0 = w.alloc (.cells #[.int .i64 ty, .slice da ds.length dc, .slice ta ts.length tc] 55) := ⟨_, rfl⟩
  have g0 : w.grownBy w0 none := by rw [hw0]; exact grown_new _ _
  have b0 := heap_alloc_new w (.cells #[.int .i64 ty, .slice da ds.length dc, .slice ta ts.length tc] 55)
  obtain ⟨c0, c1, c2⟩ := ten_cells b0
  go_enter Tryz.func56, Tryz.ntmps56
  go_wp2_with fail
  rw [← hw0] at c0 c1 c2 b0 ⊢
  have BX : Hid (∀ wx, w0.grownBy wx none → wx.heap[w.heap.size]? = some (.cells #[.int .i64 ty, .slice da ds.length dc, .slice ta ts.length tc] 55 (0, 0))) := fun wx hg => box_kept b0 hg
  clear hw0 b0
  refine (rtyped_any ty w0).mono ?_
  rintro e w1 ⟨rfl, rfl⟩
  cases hc : chk ty 0 with
  | false =>
    have E : Hid (pbE ty ds ts = 5) := by show _ = _; unfold pbE; rw [hc, if_pos rfl]
    clear hc
    go_wp2
    go_ret
    exact ⟨by rw [E.out]; rfl, g0⟩
  | true =>
    have E0 : Hid (pbE ty ds ts = if cntE ds ≠ 0 then cntE ds else if (ts.length : Int) ≠ cnt ds then 4 else if ts.all (chk ty) then 0 else 4) := by show _ = _; unfold pbE; rw [hc, if_neg (by decide)]
    clear hc
    go_wp2_with fail
    refine (refcount_any _ ds w1 (HD.out.more g0)).mono ?_
    rintro e w2 ⟨rfl, rfl⟩
    obtain ⟨X, hX⟩ : ∃ X, X = cntE ds := ⟨_, rfl⟩
    obtain ⟨Y, hY⟩ : ∃ Y, Y = cnt ds := ⟨_, rfl⟩
    rw [← hX, ← hY] at E0 ⊢
    clear hX hY
    by_cases hx : X = 0
    · subst hx
      have E1 : Hid (pbE ty ds ts = if (ts.length : Int) ≠ Y then 4 else if ts.all (chk ty) then 0 else 4) := by show _ = _; rw [E0.out, if_neg (by simp)]
      clear E0
      by_cases hy : (ts.length : Int) = Y
      · have E2 : Hid (pbE ty ds ts = if ts.all (chk ty) then 0 else 4) := by show _ = _; rw [E1.out, if_neg (by simp [hy])]
        subst hy
        clear E1
        go_wp2_with fail
        clear c0 c1 c2
        go_loopw [5] (fun i wr => w1.grownBy wr none ∧ ∃ k : Nat, k ≤ ts.length ∧ i = .int .i64 k ∧ (ts.take k).all (chk ty) = true) (fun i _ => ts.length - (intOf i).toNat)
        case atStart => exact ⟨grown_refl _, 0, Nat.zero_le _, rfl, rfl⟩
        case round =>
          obtain ⟨hg, k, hk, rfl, hall⟩ := hrel
          have HALL := hide hall
          clear hall
          obtain ⟨c0, c1, c2⟩ := ten_cells (BX.out wr hg)
          by_cases hlt : k < ts.length
          · obtain ⟨b, off, rfl, hc⟩ := T5.out (by omega)
            obtain ⟨z, hz⟩ : ∃ z, z = ts.getD k 0 := ⟨_, rfl⟩
            have hcell := cell_still (hc k hlt) (grown_trans g0 hg)
            rw [← hz] at hcell
            have HZ := hide hz
            clear hz hc
            go_wp2_with fail
            go_cut [37] from 29 to 37 (fun b wx => b = .bool (!(chk ty z)) ∧ w1.grownBy wx none)
            case first =>
              go_region_held3 (fun w' => w'.cell? ⟨w.heap.size, 0, none⟩ = some (.int .i64 ty) ∧ w'.cell? ⟨w.heap.size, 2, none⟩ = some (.slice (some ⟨b, off, none⟩) ts.length tc) ∧ w'.cell? ⟨b, off + k, none⟩ = some (.int .i64 z)) (go_keep) (first | (go_at_call 41; refine (rcheck_any ty z _).mono ?_; rintro e w3 ⟨rfl, rfl⟩))
              all_goals
                go_wp2_with fail
                go_meet
                exact ⟨rfl, grown_drew hg⟩
            case rest =>
              obtain ⟨rfl, hgx⟩ := hcut
              cases hcz : chk ty z with
              | true =>
                have HN : Hid ((ts.take (k + 1)).all (chk ty) = true) := all_step hlt HALL.out (by rw [← HZ.out]; exact hcz)
                clear hcz
                go_wp2
                go_roundw
                case rel => exact ⟨hgx, k + 1, by omega, by go_num, HN.out⟩
                case measure => simp [intOf]; omega
              | false =>
                have E : Hid (pbE ty ds ts = 4) := by show _ = _; rw [E2.out, all_not hlt (by rw [← HZ.out]; exact hcz)]; rfl
                clear hcz
                go_wp2
                go_ret
                exact ⟨by rw [E.out]; rfl, grown_trans g0 hgx⟩
          · obtain rfl : k = ts.length := by omega
            have E : Hid (pbE ty ds ts = 0) := by show _ = _; rw [E2.out, show ts.all (chk ty) = true by have := HALL.out; rwa [List.take_of_length_le (Nat.le_refl _)] at this]; rfl
            go_wp2
            go_ret
            exact ⟨by rw [E.out]; rfl, grown_trans g0 hg⟩
      · have hy' : ((ts.length : Int) != Y) = true := by simp [hy]
        have E2 : Hid (pbE ty ds ts = 4) := by show _ = _; rw [E1.out, if_pos hy]
        clear E1 hy
        go_wp2
        go_ret
        exact ⟨by rw [E2.out]; rfl, g0⟩
    · have h2 : (X == 0) = false := by simpa using hx
      have h3' : (X != 0) = true := by simp [bne, h2]
      have E1 : Hid (pbE ty ds ts = X) := by show _ = _; rw [E0.out, if_pos hx]
      clear E0 hx
      go_wp2
      go_ret
      exact ⟨by rw [E1.out]; rfl, g0⟩
end Go.Proofs.YtdcbjikjeicgbaaGreatDoor
