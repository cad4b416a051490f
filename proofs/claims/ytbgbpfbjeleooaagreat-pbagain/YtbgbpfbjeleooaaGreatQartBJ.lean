/- A part. -/
import Derived.Test.YtbgbpfbjeleooaaGreatMQart
import Derived.Test.YtbgbpfbjeleooaaGreatQartBC
import Derived.Test.YtbgbpfbjeleooaaGreatQartBI
import Derived.Test.YtbgbpfbjeleooaaGreatQartAO
set_option maxHeartbeats 6400000
set_option maxRecDepth 100000
namespace Go.Proofs.YtbgbpfbjeleooaaGreat.Pd
open Go.RowKit
open Wr (Fld)
def Abv (lo : Nat) (w w' : World) : Prop := w'.os = w.os ∧ w'.tape = w.tape ∧ w'.output = w.output ∧ w.heap.size ≤ w'.heap.size ∧ ∀ i, i < lo → i < w.heap.size → w'.heap[i]? = w.heap[i]?
theorem jdf {lo : Nat} {w w' : World} {row : Option Nat} (h : w.grownBy w' row) (hr : ∀ g, row = some g → lo ≤ g) : Abv lo w w' :=
 ⟨h.os, h.tape, h.output, h.size, fun i h1 h2 => h.block i h2 (fun e => by have := hr i e.symm; omega)⟩
theorem Abv.refl (lo : Nat) (w : World) : Abv lo w w := ⟨rfl, rfl, rfl, Nat.le_refl _, fun _ _ _ => rfl⟩
theorem Abv.trans {lo : Nat} {a b c : World} (h : Abv lo a b) (k : Abv lo b c) : Abv lo a c :=
 ⟨k.1.trans h.1, k.2.1.trans h.2.1, k.2.2.1.trans h.2.2.1, Nat.le_trans h.2.2.2.1 k.2.2.2.1, fun i h1 h2 => (k.2.2.2.2 i h1 (Nat.lt_of_lt_of_le h2 h.2.2.2.1)).trans (h.2.2.2.2 i h1 h2)⟩
theorem Abv.low {lo lo' : Nat} {a b : World} (h : Abv lo a b) (hl : lo' ≤ lo) : Abv lo' a b := ⟨h.1, h.2.1, h.2.2.1, h.2.2.2.1, fun i h1 h2 => h.2.2.2.2 i (Nat.lt_of_lt_of_le h1 hl) h2⟩
theorem Abv.grown {lo : Nat} {w0 w w' : World} (g : w0.grownBy w none) (hl : w0.heap.size ≤ lo) (h : Abv lo w w') : w0.grownBy w' none :=
 ⟨h.1.trans g.os, h.2.1.trans g.tape, h.2.2.1.trans g.output, Nat.le_trans g.size h.2.2.2.1, fun i hi _ => (h.2.2.2.2 i (Nat.lt_of_lt_of_le hi hl) (Nat.lt_of_lt_of_le hi g.size)).trans (g.block i hi (by simp))⟩
def jlz {α : Type} (lo : Nat) (w : World) (r : R α) (Q : α → Value → World → Prop) (e : Ending) (w' : World) : Prop := Abv lo w w' ∧ match r with
 | .error c => e = .panicked [{ v := .iface 28 (.int .i64 c), recovered := false }]
 | .ok a => ∃ v, e = .returned v ∧ Q a v w'
def jcU (w : World) (lo B : Nat) (l : List Fld) (sz : Nat) : Prop :=
 ∃ s : Sl, w.heap[B]? = some (.cells #[.slice s.a s.n s.c, .int .i64 sz] 114 (0, 0)) ∧ Wr.OwnsL 49 4 Wr.fcells w lo s.v l ∧ lo ≤ B
theorem jcU.more {w w' : World} {lo B : Nat} {l : List Fld} {sz : Nat} (h : jcU w lo B l sz) (hg : w.grownBy w' none) : jcU w' lo B l sz := by
 obtain ⟨s, hb, ho, hl⟩ := h
 exact ⟨s, (hg.block B (Array.getElem?_eq_some_iff.1 hb).1 (by simp)).trans hb, Wr.OwnsL.more ho hg, hl⟩
def ja9 (m : List Fld × Nat) (f : Fld) : R (List Fld × Nat) := if 16777216 < m.2 + f.b.size then .error 6 else .ok (m.1 ++ [f], m.2 + f.b.size)
theorem jdg {w : World} {base te sz n t B : Nat} {v : Value} {cs : List Value} {cur : Array Value} {m : Nat × Nat} (h : w.ownsRow base te sz v n cs) (hb : w.heap[B]? = some (.cells cur t m)) (ht : te ≠ t) : v.ownBlock = none ∨ v.ownBlock ≠ some B := by
 rcases h.2 with ⟨e, -⟩ | ⟨g, cap, cur', e, -, hg, -⟩
 ·exact .inl (by rw [e]; rfl)
 ·refine .inr ?_
  rw [e]
  simp only [Value.ownBlock, ne_eq, Option.some.injEq]
  rintro rfl
  rw [hg] at hb
  simp only [Option.some.injEq, Obj.cells.injEq] at hb
  exact ht hb.2.1
theorem jgy {o : Option Nat} {B : Nat} (h : o = none ∨ o ≠ some B) : some B ≠ o := by
 rcases h with h | h
 ·rw [h]; simp
 ·exact fun e => h e.symm
theorem jdK {w : World} {B : Nat} {z0 z1 : Value} {t : TypeId} (hb : w.heap[B]? = some (.cells #[z0, z1] t (0, 0))) :
    (w.cell? ⟨B, 0, none⟩ = some z0 ∧ w.cell? ⟨B, 1, none⟩ = some z1) ∧ w.frozen? ⟨B, 0, none⟩ = false ∧ w.frozen? ⟨B, 1, none⟩ = false :=
     ⟨⟨(cell_of_row _ _ 0 _ _ (0, 0) hb).trans rfl, (cell_of_row _ _ 1 _ _ (0, 0) hb).trans rfl⟩, frozen_of_row w B 0 _ _ hb, frozen_of_row w B 1 _ _ hb⟩
theorem jmE {w : World} {B : Nat} {z0 z1 : Value} {t : TypeId} (hb : w.heap[B]? = some (.cells #[z0, z1] t (0, 0))) (a : Value) :
    (w.setCell ⟨B, 0, none⟩ a).heap[B]? = some (.cells #[a, z1] t (0, 0)) ∧ (w.setCell ⟨B, 1, none⟩ a).heap[B]? = some (.cells #[z0, a] t (0, 0)) :=
     ⟨by simpa using heap_setCell_same w B 0 _ _ a hb, by simpa using heap_setCell_same w B 1 _ _ a hb⟩
theorem jbM {w : World} {B : Nat} {z0 z1 z2 z3 : Value} {t : TypeId} (hb : w.heap[B]? = some (.cells #[z0, z1, z2, z3] t (0, 0))) :
    w.cell? ⟨B, 0, none⟩ = some z0 ∧ w.cell? ⟨B, 1, none⟩ = some z1 ∧ w.cell? ⟨B, 2, none⟩ = some z2 ∧ w.cell? ⟨B, 3, none⟩ = some z3 := (jaV hb).1
theorem jei {B b j : Nat} (w : World) (a : Value) (h : b ≠ B) : (w.setCell ⟨B, j, none⟩ a).heap[b]? = w.heap[b]? := Below.heap_setCell _ _ _ _ (fun e => h (by rw [e]))
theorem jfI (lo B : Nat) (l : List Fld) (sz : Nat) (f : Fld) (w : World) (hm : jcU w lo B l sz) (hf : f.b.size ≤ 4611686018427387904) (hsz : sz ≤ 16777216) (hl : l.length ≤ 100000000) :
    Calls Tryz.prog 97 #[.pointer (some ⟨B, 0, none⟩), .agg #[.int .i64 f.num, .int .i64 f.kind, .int .u64 f.u, .string f.b]] w (jlz lo w (ja9 (l, sz) f) fun m v w' => v = .tuple #[] ∧ jcU w' lo B m.1 m.2) := by
     obtain ⟨i0, hi, hz0, hz1, hz2⟩ := info_parts Wr.info_fld
     obtain ⟨⟨sa, sn, sc⟩, hb, ho, hB⟩ := hm
     have LB := jac hB
     obtain ⟨sa', sc', e9⟩ := Wr.OwnsL.form ho
     simp only [Sl.v, Value.slice.injEq] at e9
     obtain ⟨rfl, rfl, rfl⟩ := e9
     simp only [Sl.v] at hb ho
     obtain ⟨bF, hF⟩ : ∃ b, b = w.heap.size := ⟨_, rfl⟩
     have hBlt := (Array.getElem?_eq_some_iff.1 hb).1
     have NBF : Hid (bF ≠ B) := by show bF ≠ B; omega
     have NF : Hid ((Value.slice sa l.length sc).ownBlock ≠ some bF) := fun e => by have := (World.ownsRow.lt ho bF e).2; omega
     obtain ⟨w1, hw1⟩ : ∃ w1, w1 = w.alloc (.cells #[.int .i64 f.num, .int .i64 f.kind, .int .u64 f.u, .string f.b] 49) := ⟨_, rfl⟩
     have g1 : w.grownBy w1 none := by rw [hw1]; exact jab _ _
     have F1 : w1.heap[bF]? = some (.cells #[.int .i64 f.num, .int .i64 f.kind, .int .u64 f.u, .string f.b] 49 (0, 0)) := by rw [hF, hw1]; exact heap_alloc_new w _
     obtain ⟨wd, hwd⟩ : ∃ wd, wd = w1.drew := ⟨_, rfl⟩
     have gd : w.grownBy wd none := by rw [hwd]; exact ⟨g1.os, g1.tape, g1.output, g1.size, g1.block⟩
     have FD : Hid (wd.heap[bF]? = some (.cells #[.int .i64 f.num, .int .i64 f.kind, .int .u64 f.u, .string f.b] 49 (0, 0))) := by show wd.heap[bF]? = _; rw [hwd]; exact F1
     have MD := jac ((gd.block B hBlt (by simp)).trans hb)
     have OD := jac (Wr.OwnsL.more ho gd)
     have K3 := jap wd B 1 (.int .i64 ((sz : Int) + (f.b.size : Int)))
     have M3 := jac ((jmE MD.out (.int .i64 ((sz : Int) + (f.b.size : Int)))).2)
     have FX : Hid ((wd.setCell ⟨B, 1, none⟩ (.int .i64 ((sz : Int) + (f.b.size : Int)))).heap[bF]? = some (.cells #[.int .i64 f.num, .int .i64 f.kind, .int .u64 f.u, .string f.b] 49 (0, 0))) := by show _ = _; rw [jei _ _ NBF.out]; exact FD.out
     have F3 := FX
     have O3 : Hid (Wr.OwnsL 49 4 Wr.fcells (wd.setCell ⟨B, 1, none⟩ (.int .i64 ((sz : Int) + (f.b.size : Int)))) lo (.slice sa l.length sc) l) := World.ownsRow.kept OD.out K3 (jdg OD.out MD.out (by decide))
     have A3 := jac ((jdf (lo := lo) gd (by simp)).trans (jdf K3 (fun g e => by cases e; exact hB)))
     have XS : Hid (True) := trivial
     have ws : IntKind.i64.wrap ((sz : Int) + (f.b.size : Int)) = (sz : Int) + (f.b.size : Int) := by rw [IntKind.wrap_i64]; omega
     obtain ⟨⟨m0, m1⟩, mf0, mf1⟩ := jdK MD.out
     clear K3 gd g1 hb ho hBlt hB
     go_enter Tryz.func97, Tryz.ntmps97
     go_wp2_with fail
     rw [← hw1, ← hF]
     clear hw1 hF F1
     refine wp_region_held_drew (S := (fun w' => w'.heap[bF]? = some (.cells #[.int .i64 f.num, .int .i64 f.kind, .int .u64 f.u, .string f.b] 49 (0, 0)))) (by kernel_rfl) (by rw [← hwd]; exact FD.out) (fun hHeld => ?_)
     rw [← hwd] at hHeld ⊢
     clear hwd
     refine tkD 0 ?_ (hv := by intro w hSw; (try dsimp only at hSw); obtain ⟨y0, y1, y2, y3⟩ := jbM hSw; go_simp; (try with_reducible rfl))
     try simp only [Act.put]
     refine tkD 1 ?_ (hv := by intro w hSw; (try dsimp only at hSw); obtain ⟨y0, y1, y2, y3⟩ := jbM hSw; go_simp; (try with_reducible rfl))
     try simp only [Act.put]
     refine tkD 2 ?_ (hv := by intro w hSw; (try dsimp only at hSw); obtain ⟨y0, y1, y2, y3⟩ := jbM hSw; go_simp; (try with_reducible rfl))
     try simp only [Act.put]
     refine tkD 4 ?_ (hv := by intro w hSw; (try dsimp only at hSw); obtain ⟨y0, y1, y2, y3⟩ := jbM hSw; go_simp; (try with_reducible rfl))
     try simp only [Act.put]
     refine tkD 5 ?_ (hv := by intro w hSw; (try dsimp only at hSw); obtain ⟨y0, y1, y2, y3⟩ := jbM hSw; go_simp; (try with_reducible rfl))
     try simp only [Act.put]
     refine tkD 6 ?_ (hv := by intro w hSw; (try dsimp only at hSw); obtain ⟨y0, y1, y2, y3⟩ := jbM hSw; go_simp; (try with_reducible rfl))
     try simp only [Act.put]
     refine wpAnyH_ready (rs := [3]) (by kernel_rfl) (by simp) ?_
     refine AllReadyH.cons rfl (fun K hK => ?_) ?_
     ·skip
      go_simp
      refine hK.out _ _ (FD.out) (fun hHeld => ?_)
      clear hK K
      try simp only [Act.put]
      refine tkD 7 ?_ (hv := by intro w hSw; (try dsimp only at hSw); obtain ⟨y0, y1, y2, y3⟩ := jbM hSw; go_simp; (try with_reducible rfl))
      try simp only [Act.put]
      refine tkD 8 ?_ (hv := by intro w hSw; (try dsimp only at hSw); obtain ⟨y0, y1, y2, y3⟩ := jbM hSw; go_simp; (try with_reducible rfl))
      try simp only [Act.put]
      refine tkD 9 ?_ (hv := by intro w hSw; (try dsimp only at hSw); obtain ⟨y0, y1, y2, y3⟩ := jbM hSw; go_simp; (try with_reducible rfl))
      try simp only [Act.put]
      refine wpAnyH_ready (rs := [10]) (by kernel_rfl) (by simp) ?_
      refine AllReadyH.cons rfl (fun K hK => ?_) ?_
      ·skip
       go_simp
       refine hK.out _ _ (FX.out) (fun hHeld => ?_)
       clear hK K
       try simp only [Act.put]
       refine wpAnyH_done (by kernel_rfl) ?_ _
       clear m0 m1 mf0 mf1 hHeld
       have sz2 := XS.out
       obtain ⟨w3, hw3⟩ : ∃ w3, w3 = wd.setCell ⟨B, 1, none⟩ (.int .i64 ((sz : Int) + (f.b.size : Int))) := ⟨_, rfl⟩
       rw [← hw3] at M3 F3 O3 A3 ⊢
       clear hw3
       obtain ⟨⟨m0, m1⟩, -⟩ := jdK M3.out
       by_cases hbig : 16777216 < sz + f.b.size
       ·have E : Hid (ja9 (l, sz) f = .error 6) := by show _ = _; unfold ja9; rw [if_pos hbig]
        have d1 : decide ((16777216 : Int) < (sz : Int) + (f.b.size : Int)) = true := by simp only [decide_eq_true_eq]; omega
        clear hbig
        go_wp2_with (go_at_call 53; refine (jaB _ _).mono ?_; rintro e w' ⟨rfl, rfl⟩)
        exact ⟨rfl, A3.out, by rw [E.out]⟩
       ·have E : Hid (ja9 (l, sz) f = .ok (l ++ [f], sz + f.b.size)) := by show _ = _; unfold ja9; rw [if_neg hbig]
        have d1 : decide ((16777216 : Int) < (sz : Int) + (f.b.size : Int)) = false := by simp only [decide_eq_false_iff_not]; omega
        clear hbig
        go_wp2_with (go_at_call 53; refine (jaP _ _).mono ?_; rintro e w' ⟨rfl, rfl⟩)
        clear m0 m1
        have gd2 : w3.grownBy w3.drew none := ⟨rfl, rfl, rfl, Nat.le_refl _, fun _ _ _ => rfl⟩
        obtain ⟨we, hwe⟩ : ∃ we, we = w3.drew := ⟨_, rfl⟩
        rw [← hwe] at gd2
        have M4 := jac ((gd2.block B (by have := (Array.getElem?_eq_some_iff.1 M3.out).1; exact this) (by simp)).trans M3.out)
        have F4 := jac ((gd2.block bF (by have := (Array.getElem?_eq_some_iff.1 F3.out).1; exact this) (by simp)).trans F3.out)
        have O4 : Hid (Wr.OwnsL 49 4 Wr.fcells we lo (.slice sa l.length sc) l) := Wr.OwnsL.more O3.out gd2
        have A4 := jac (A3.out.trans (jdf gd2 (by simp)))
        have se : Hid (lo ≤ we.heap.size) := by have h1 := gd2.size; have := (Array.getElem?_eq_some_iff.1 M3.out).1; have := LB.out; show lo ≤ _; omega
        have FN : Hid (∀ o, (we.alloc o).heap[bF]? = some (.cells #[.int .i64 f.num, .int .i64 f.kind, .int .u64 f.u, .string f.b] 49 (0, 0))) := fun o => ((jab we o).block bF (Array.getElem?_eq_some_iff.1 F4.out).1 (by simp)).trans F4.out
        clear gd2
        refine wp_region_held_drew (S := (fun w' => w'.heap[bF]? = some (.cells #[.int .i64 f.num, .int .i64 f.kind, .int .u64 f.u, .string f.b] 49 (0, 0)))) (by kernel_rfl) (by rw [← hwe]; exact F4.out) (fun hHeld => ?_)
        rw [← hwe] at hHeld ⊢
        clear hwe
        refine tkD 0 ?_ (hv := by intro w hSw; (try dsimp only at hSw); obtain ⟨y0, y1, y2, y3⟩ := jbM hSw; go_simp; (try with_reducible rfl))
        try simp only [Act.put]
        refine tkD 1 ?_ (hv := by intro w hSw; (try dsimp only at hSw); obtain ⟨y0, y1, y2, y3⟩ := jbM hSw; go_simp; (try with_reducible rfl))
        try simp only [Act.put]
        refine tkD 2 ?_ (hv := by intro w hSw; (try dsimp only at hSw); obtain ⟨y0, y1, y2, y3⟩ := jbM hSw; go_simp; (try with_reducible rfl))
        try simp only [Act.put]
        refine tkD 3 ?_ (hv := by intro w hSw; (try dsimp only at hSw); obtain ⟨y0, y1, y2, y3⟩ := jbM hSw; go_simp; (try with_reducible rfl))
        try simp only [Act.put]
        refine tkD 5 ?_ (hv := by intro w hSw; (try dsimp only at hSw); obtain ⟨y0, y1, y2, y3⟩ := jbM hSw; go_simp; (try with_reducible rfl))
        try simp only [Act.put]
        refine wpAnyH_ready (rs := [4, 6]) (by kernel_rfl) (by simp) ?_
        refine AllReadyH.cons rfl (fun K hK => ?_) ?_
        ·skip
         obtain ⟨⟨m0, m1⟩, -⟩ := jdK M4.out
         go_simp
         clear m0 m1
         refine hK.out _ _ (F4.out) (fun hHeld => ?_)
         clear hK K
         try simp only [Act.put]
         refine wpAnyH_ready (rs := [6]) (by kernel_rfl) (by simp) ?_
         refine AllReadyH.cons rfl (fun K hK => ?_) ?_
         ·skip
          go_simp
          refine hK.out _ _ (FN.out _) (fun hHeld => ?_)
          clear hK K
          try simp only [Act.put]
          refine wpAnyH_ready (rs := [7]) (by kernel_rfl) (by simp) ?_
          refine AllReadyH.cons rfl (fun K hK => ?_) ?_
          ·skip
           have OW := Wr.OwnsL.more O4.out (jab we (.cells #[.int .i64 f.num, .int .i64 f.kind, .int .u64 f.u, .string f.b] 49))
           unfold Wr.OwnsL at OW
           refine step_append_lies _ (by rfl) (.tmp 24) (.tmp 26) 51 (by rfl) lo 49 i0 _ 4 40 Tryz.underlying51 hi hz0 hz1 hz2 (by rfl) (by decide) (.slice sa l.length sc) l.length (l.flatMap Wr.fcells) (by rfl) (by exact OW) ⟨we.heap.size, 0, none⟩ 1 1 (Wr.fcells f) (by rfl) (by rfl) (by exact jbL we _ _ _ rfl) (Wr.fcells_one f) (by decide) (by simp only [maxLen]; omega) (by omega) (by have := se.out; simp; omega) (we.heap.size + 1) (by simp) ?_
           intro g cap w8 hown' hgrow hat hlt
           have gn := jab we (.cells #[.int .i64 f.num, .int .i64 f.kind, .int .u64 f.u, .string f.b] 49)
           have own_ge : ∀ g, (Value.slice sa l.length sc).ownBlock = some g → lo ≤ g := fun g e => (World.ownsRow.lt OW g e).1
           have nB : (Value.slice sa l.length sc).ownBlock = none ∨ (Value.slice sa l.length sc).ownBlock ≠ some B := jdg O4.out M4.out (by decide)
           have nF : (Value.slice sa l.length sc).ownBlock = none ∨ (Value.slice sa l.length sc).ownBlock ≠ some bF := by have := NF.out; cases e : (Value.slice sa l.length sc).ownBlock with | none => exact .inl rfl | some k => exact .inr (fun e2 => by cases e2; exact this e)
           have M8 := jac ((hgrow.block B (by have := gn.size; have := (Array.getElem?_eq_some_iff.1 M4.out).1; omega) (jgy nB)).trans ((gn.block B (Array.getElem?_eq_some_iff.1 M4.out).1 (by simp)).trans M4.out))
           have F8 := jac ((hgrow.block bF (by have := gn.size; have := (Array.getElem?_eq_some_iff.1 F4.out).1; omega) (jgy nF)).trans (FN.out _))
           have hown2 : Wr.OwnsL 49 4 Wr.fcells w8 lo (.slice (some ⟨g, 0, none⟩) (l.length + 1) cap) (l ++ [f]) := by unfold Wr.OwnsL; rw [List.length_append, List.flatMap_append]; simpa using hown'
           have O8 := jac hown2
           have A8 := jac (A4.out.trans ((jdf gn (by simp)).trans (jdf hgrow (fun g e => own_ge g e))))
           clear hown' hown2 hgrow hat hlt gn own_ge nB nF OW
           obtain ⟨⟨m0, m1⟩, mf0, mf1⟩ := jdK M8.out
           refine hK.out _ _ (F8.out) (fun hHeld => ?_)
           clear hK K
           try simp only [Act.put]
           refine tkD 8 ?_ (hv := by intro w hSw; (try dsimp only at hSw); obtain ⟨y0, y1, y2, y3⟩ := jbM hSw; go_simp; (try with_reducible rfl))
           try simp only [Act.put]
           refine tkD 9 ?_ (hv := by intro w hSw; (try dsimp only at hSw); obtain ⟨y0, y1, y2, y3⟩ := jbM hSw; go_simp; (try with_reducible rfl))
           try simp only [Act.put]
           refine wpAnyH_ready (rs := [10]) (by kernel_rfl) (by simp) ?_
           refine AllReadyH.cons rfl (fun K hK => ?_) ?_
           ·skip
            go_simp
            refine hK.out _ _ (by rw [jei _ _ NBF.out]; exact F8.out) (fun hHeld => ?_)
            clear hK K
            try simp only [Act.put]
            refine wpAnyH_done (by kernel_rfl) ?_ _
            have K9 := jap w8 B 0 (.slice (some ⟨g, 0, none⟩) (l.length + 1) cap)
            have M9 := jac ((jmE M8.out (.slice (some ⟨g, 0, none⟩) (l.length + 1) cap)).1)
            have O9 : Hid (Wr.OwnsL 49 4 Wr.fcells (w8.setCell ⟨B, 0, none⟩ (.slice (some ⟨g, 0, none⟩) (l.length + 1) cap)) lo (.slice (some ⟨g, 0, none⟩) (l.length + 1) cap) (l ++ [f])) := World.ownsRow.kept O8.out K9 (jdg O8.out M8.out (by decide))
            have A9 := jac (A8.out.trans (jdf K9 (fun g e => by cases e; exact LB.out)))
            clear K9 m0 m1 mf0 mf1
            go_wp2_with fail
            go_end0
            refine ⟨A9.out, ?_⟩
            rw [E.out]
            exact ⟨_, rfl, rfl, ⟨some ⟨g, 0, none⟩, l.length + 1, cap⟩, by rw [Int.natCast_add]; exact M9.out, O9.out, LB.out⟩
           exact AllReadyH.nil
          exact AllReadyH.nil
         exact AllReadyH.nil
        refine AllReadyH.cons rfl (fun K hK => ?_) ?_
        ·skip
         go_simp
         refine hK.out _ _ (FN.out _) (fun hHeld => ?_)
         clear hK K
         try simp only [Act.put]
         refine wpAnyH_ready (rs := [4]) (by kernel_rfl) (by simp) ?_
         refine AllReadyH.cons rfl (fun K hK => ?_) ?_
         ·skip
          obtain ⟨⟨m0, m1⟩, -⟩ := jdK (((jab we (.cells #[.int .i64 f.num, .int .i64 f.kind, .int .u64 f.u, .string f.b] 49)).block B (Array.getElem?_eq_some_iff.1 M4.out).1 (by simp)).trans M4.out)
          go_simp
          clear m0 m1
          refine hK.out _ _ (FN.out _) (fun hHeld => ?_)
          clear hK K
          try simp only [Act.put]
          refine wpAnyH_ready (rs := [7]) (by kernel_rfl) (by simp) ?_
          refine AllReadyH.cons rfl (fun K hK => ?_) ?_
          ·skip
           have OW := Wr.OwnsL.more O4.out (jab we (.cells #[.int .i64 f.num, .int .i64 f.kind, .int .u64 f.u, .string f.b] 49))
           unfold Wr.OwnsL at OW
           refine step_append_lies _ (by rfl) (.tmp 24) (.tmp 26) 51 (by rfl) lo 49 i0 _ 4 40 Tryz.underlying51 hi hz0 hz1 hz2 (by rfl) (by decide) (.slice sa l.length sc) l.length (l.flatMap Wr.fcells) (by rfl) (by exact OW) ⟨we.heap.size, 0, none⟩ 1 1 (Wr.fcells f) (by rfl) (by rfl) (by exact jbL we _ _ _ rfl) (Wr.fcells_one f) (by decide) (by simp only [maxLen]; omega) (by omega) (by have := se.out; simp; omega) (we.heap.size + 1) (by simp) ?_
           intro g cap w8 hown' hgrow hat hlt
           have gn := jab we (.cells #[.int .i64 f.num, .int .i64 f.kind, .int .u64 f.u, .string f.b] 49)
           have own_ge : ∀ g, (Value.slice sa l.length sc).ownBlock = some g → lo ≤ g := fun g e => (World.ownsRow.lt OW g e).1
           have nB : (Value.slice sa l.length sc).ownBlock = none ∨ (Value.slice sa l.length sc).ownBlock ≠ some B := jdg O4.out M4.out (by decide)
           have nF : (Value.slice sa l.length sc).ownBlock = none ∨ (Value.slice sa l.length sc).ownBlock ≠ some bF := by have := NF.out; cases e : (Value.slice sa l.length sc).ownBlock with | none => exact .inl rfl | some k => exact .inr (fun e2 => by cases e2; exact this e)
           have M8 := jac ((hgrow.block B (by have := gn.size; have := (Array.getElem?_eq_some_iff.1 M4.out).1; omega) (jgy nB)).trans ((gn.block B (Array.getElem?_eq_some_iff.1 M4.out).1 (by simp)).trans M4.out))
           have F8 := jac ((hgrow.block bF (by have := gn.size; have := (Array.getElem?_eq_some_iff.1 F4.out).1; omega) (jgy nF)).trans (FN.out _))
           have hown2 : Wr.OwnsL 49 4 Wr.fcells w8 lo (.slice (some ⟨g, 0, none⟩) (l.length + 1) cap) (l ++ [f]) := by unfold Wr.OwnsL; rw [List.length_append, List.flatMap_append]; simpa using hown'
           have O8 := jac hown2
           have A8 := jac (A4.out.trans ((jdf gn (by simp)).trans (jdf hgrow (fun g e => own_ge g e))))
           clear hown' hown2 hgrow hat hlt gn own_ge nB nF OW
           obtain ⟨⟨m0, m1⟩, mf0, mf1⟩ := jdK M8.out
           refine hK.out _ _ (F8.out) (fun hHeld => ?_)
           clear hK K
           try simp only [Act.put]
           refine tkD 8 ?_ (hv := by intro w hSw; (try dsimp only at hSw); obtain ⟨y0, y1, y2, y3⟩ := jbM hSw; go_simp; (try with_reducible rfl))
           try simp only [Act.put]
           refine tkD 9 ?_ (hv := by intro w hSw; (try dsimp only at hSw); obtain ⟨y0, y1, y2, y3⟩ := jbM hSw; go_simp; (try with_reducible rfl))
           try simp only [Act.put]
           refine wpAnyH_ready (rs := [10]) (by kernel_rfl) (by simp) ?_
           refine AllReadyH.cons rfl (fun K hK => ?_) ?_
           ·skip
            go_simp
            refine hK.out _ _ (by rw [jei _ _ NBF.out]; exact F8.out) (fun hHeld => ?_)
            clear hK K
            try simp only [Act.put]
            refine wpAnyH_done (by kernel_rfl) ?_ _
            have K9 := jap w8 B 0 (.slice (some ⟨g, 0, none⟩) (l.length + 1) cap)
            have M9 := jac ((jmE M8.out (.slice (some ⟨g, 0, none⟩) (l.length + 1) cap)).1)
            have O9 : Hid (Wr.OwnsL 49 4 Wr.fcells (w8.setCell ⟨B, 0, none⟩ (.slice (some ⟨g, 0, none⟩) (l.length + 1) cap)) lo (.slice (some ⟨g, 0, none⟩) (l.length + 1) cap) (l ++ [f])) := World.ownsRow.kept O8.out K9 (jdg O8.out M8.out (by decide))
            have A9 := jac (A8.out.trans (jdf K9 (fun g e => by cases e; exact LB.out)))
            clear K9 m0 m1 mf0 mf1
            go_wp2_with fail
            go_end0
            refine ⟨A9.out, ?_⟩
            rw [E.out]
            exact ⟨_, rfl, rfl, ⟨some ⟨g, 0, none⟩, l.length + 1, cap⟩, by rw [Int.natCast_add]; exact M9.out, O9.out, LB.out⟩
           exact AllReadyH.nil
          exact AllReadyH.nil
         exact AllReadyH.nil
        exact AllReadyH.nil
      exact AllReadyH.nil
     exact AllReadyH.nil
end Go.Proofs.YtbgbpfbjeleooaaGreat.Pd
namespace Go.Proofs.YtbgbpfbjeleooaaGreat.Pd
open Go.RowKit
open Wr (Fld)
def jcv (f : Fld) : Value := .agg #[.int .i64 f.num, .int .i64 f.kind, .int .u64 f.u, .string f.b]
def jaW (num : Int) (s : ByteArray) : Fld := ⟨num, 2, 0, s⟩
def je0 (num x : Int) : Fld := ⟨num, 0, x % 18446744073709551616, ⟨#[]⟩⟩
def jfQ (num x : Int) : Fld := ⟨num, 5, x % 18446744073709551616, ⟨#[]⟩⟩
theorem jfk {α : Type} {lo : Nat} {w w' : World} {r : R α} {Q : α → Value → World → Prop} {c : Int} (h : r = .error c) (ha : Abv lo w w') : jlz lo w r Q (.panicked [{ v := .iface 28 (.int .i64 c), recovered := false }]) w' := by
 rw [h]
 exact ⟨ha, rfl⟩
theorem jgz {α : Type} {lo : Nat} {w w' : World} {r : R α} {Q : α → Value → World → Prop} {a : α} {v : Value} (h : r = .ok a) (ha : Abv lo w w') (hq : Q a v w') : jlz lo w r Q (.returned v) w' := by
 rw [h]
 exact ⟨ha, v, rfl, hq⟩
theorem jcx : (Tryz.prog.info? 49).map (·.size) = some 4 := by kernel_rfl
theorem jgA {w : World} {B : Nat} {cs0 cs : Array Value} {t : TypeId} (hb : w.heap[B]? = some (.cells cs0 t (0, 0))) : (w.setRow B cs).heap[B]? = some (.cells cs t (0, 0)) ∧ w.grownBy (w.setRow B cs) (some B) := jjE hb
theorem jca {fn : Func} {p : Tmp} (h : fn.results = #[.cell p 49]) (tmps : Array Value) (w : World) (B : Nat) (hp : tmps.getD p undef = .pointer (some ⟨B, 0, none⟩)) {a0 a1 a2 a3 : Value}
    (hb : w.heap[B]? = some (.cells #[a0, a1, a2, a3] 49 (0, 0))) : (results fn tmps).run Tryz.prog w = .ok (.agg #[a0, a1, a2, a3]) w :=
     results_cell_row h tmps w B 49 #[a0, a1, a2, a3] (0, 0) _ hp hb Tryz.underlying49 rfl (by rw [jcx]; rfl)
theorem jc2 (num : Int) (s : ByteArray) (w : World) : Calls Tryz.prog 98 #[.int .i64 num, .string s] w fun e w' => e = .returned (jcv (jaW num s)) ∧ w.grownBy w' none := by
 have hb := heap_alloc_new w (.cells #[.int .i64 0, .int .i64 0, .int .u64 0, .string ⟨#[]⟩] 49)
 have X := jac (jgA (cs := #[.int .i64 num, .int .i64 2, .int .u64 0, .string s]) hb)
 have G := jac (jaf (row := none) (jab w (.cells #[.int .i64 0, .int .i64 0, .int .u64 0, .string ⟨#[]⟩] 49)) X.out.2 (fun g e => by cases e; exact .inr (Nat.le_refl _)))
 go_enter Tryz.func98, Tryz.ntmps98
 go_wp2_with (refine wpList_store_row rfl 49 (.tmp 4) (.tmp 7) rfl w.heap.size #[.int .i64 num, .int .i64 2, .int .u64 0, .string s] rfl rfl 49 _ hb jcx rfl (by simp [Value.oneCell']) ?_)
 refine bodyPost_ret (jca rfl _ _ w.heap.size rfl X.out.1) rfl ?_
 exact ⟨rfl, G.out⟩
theorem jdL (num x : Int) (w : World) : Calls Tryz.prog 145 #[.int .i64 num, .int .i64 x] w fun e w' => e = .returned (jcv (je0 num x)) ∧ w.grownBy w' none := by
 have hb := heap_alloc_new w (.cells #[.int .i64 0, .int .i64 0, .int .u64 0, .string ⟨#[]⟩] 49)
 have X := jac (jgA (cs := #[.int .i64 num, .int .i64 0, .int .u64 (x % 18446744073709551616), .string ⟨#[]⟩]) hb)
 have G := jac (jaf (row := none) (jab w (.cells #[.int .i64 0, .int .i64 0, .int .u64 0, .string ⟨#[]⟩] 49)) X.out.2 (fun g e => by cases e; exact .inr (Nat.le_refl _)))
 go_enter Tryz.func145, Tryz.ntmps145
 go_wp2_with (refine wpList_store_row rfl 49 (.tmp 4) (.tmp 8) rfl w.heap.size #[.int .i64 num, .int .i64 0, .int .u64 (x % 18446744073709551616), .string ⟨#[]⟩] rfl rfl 49 _ hb jcx rfl (by simp [Value.oneCell']) ?_)
 refine bodyPost_ret (jca rfl _ _ w.heap.size rfl X.out.1) rfl ?_
 exact ⟨rfl, G.out⟩
theorem jee (num x : Int) (w : World) : Calls Tryz.prog 148 #[.int .i64 num, .int .i64 x] w fun e w' => e = .returned (jcv (jfQ num x)) ∧ w.grownBy w' none := by
 have hb := heap_alloc_new w (.cells #[.int .i64 0, .int .i64 0, .int .u64 0, .string ⟨#[]⟩] 49)
 have X := jac (jgA (cs := #[.int .i64 num, .int .i64 5, .int .u64 (x % 18446744073709551616), .string ⟨#[]⟩]) hb)
 have G := jac (jaf (row := none) (jab w (.cells #[.int .i64 0, .int .i64 0, .int .u64 0, .string ⟨#[]⟩] 49)) X.out.2 (fun g e => by cases e; exact .inr (Nat.le_refl _)))
 go_enter Tryz.func148, Tryz.ntmps148
 go_wp2_with (refine wpList_store_row rfl 49 (.tmp 4) (.tmp 8) rfl w.heap.size #[.int .i64 num, .int .i64 5, .int .u64 (x % 18446744073709551616), .string ⟨#[]⟩] rfl rfl 49 _ hb jcx rfl (by simp [Value.oneCell']) ?_)
 refine bodyPost_ret (jca rfl _ _ w.heap.size rfl X.out.1) rfl ?_
 exact ⟨rfl, G.out⟩
theorem jbj (lo B : Nat) (l : List Fld) (sz : Nat) (num : Int) (s : ByteArray) (w : World) (hm : jcU w lo B l sz) (hsz : sz ≤ 16777216) (hl : l.length ≤ 100000000) (hs : s.size ≤ 4611686018427387904) :
    Calls Tryz.prog 70 #[.pointer (some ⟨B, 0, none⟩), .int .i64 num, .string s] w (jlz lo w (ja9 (l, sz) (jaW num s)) fun m v w' => v = .tuple #[] ∧ jcU w' lo B m.1 m.2) := by
     obtain ⟨F, hF⟩ : ∃ F, F = (jaW num s) := ⟨_, rfl⟩
     have BF := jac (fun wx => jc2 num s wx)
     have PT := jac (fun wx (hg : w.grownBy wx none) => jfI lo B l sz (jaW num s) wx (hm.more hg) hs hsz hl)
     rw [← hF] at BF PT
     rw [← hF]
     clear hF
     go_enter Tryz.func70, Tryz.ntmps70
     go_wp2_with fail
     refine (BF.out w).mono ?_
     rintro e w1 ⟨rfl, g1⟩
     have P1 := jac (PT.out w1 g1)
     have A1 := jac (jdf (lo := lo) g1 (by simp))
     unfold jcv
     cases hp : ja9 (l, sz) F with
     | error c =>
      rw [hp] at P1
      have HP := jac hp
      clear hp
      go_wp2_with fail
      refine P1.out.mono ?_
      rintro e w2 ⟨ha, rfl⟩
      exact ⟨rfl, jfk HP.out (A1.out.trans ha)⟩
     | ok m =>
      rw [hp] at P1
      have HP := jac hp
      clear hp
      go_wp2_with fail
      refine P1.out.mono ?_
      rintro e w2 ⟨ha, v, rfl, rfl, hq⟩
      go_wp2
      go_end0
      exact jgz HP.out (A1.out.trans ha) ⟨rfl, hq⟩
def jaZ (m : List Fld × Nat) (num : Int) (s : ByteArray) : R (List Fld × Nat) := if s.size = 0 then .ok m else ja9 m (jaW num s)
theorem jcQ (lo B : Nat) (l : List Fld) (sz : Nat) (num : Int) (s : ByteArray) (w : World) (hm : jcU w lo B l sz) (hsz : sz ≤ 16777216) (hl : l.length ≤ 100000000) (hs : s.size ≤ 4611686018427387904) :
    Calls Tryz.prog 100 #[.pointer (some ⟨B, 0, none⟩), .int .i64 num, .string s] w (jlz lo w (jaZ (l, sz) num s) fun m v w' => v = .tuple #[] ∧ jcU w' lo B m.1 m.2) := by
     have BA := jac (jbj lo B l sz num s w hm hsz hl hs)
     by_cases h0 : s.size = 0
     ·have E : Hid (jaZ (l, sz) num s = .ok (l, sz)) := by show _ = _; unfold jaZ; rw [if_pos h0]
      have e0 : s.toList.isEmpty = true := by rw [ByteArray.toList_eq, List.isEmpty_iff]; exact List.length_eq_zero_iff.1 (by rw [Array.length_toList]; exact h0)
      have HM := jac hm
      rw [E.out]
      clear h0 hm
      go_enter Tryz.func100, Tryz.ntmps100
      go_wp2
      go_end0
      exact ⟨Abv.refl _ _, _, rfl, rfl, HM.out⟩
     ·have E : Hid (jaZ (l, sz) num s = ja9 (l, sz) (jaW num s)) := by show _ = _; unfold jaZ; rw [if_neg h0]
      have e0 : s.toList.isEmpty = false := jeA (by omega)
      rw [E.out]
      clear h0 hm
      cases hp : ja9 (l, sz) (jaW num s) with
      | error c =>
       rw [hp] at BA
       clear hp
       go_enter Tryz.func100, Tryz.ntmps100
       go_wp2_with fail
       refine BA.out.mono ?_
       rintro e w2 ⟨ha, rfl⟩
       exact ⟨rfl, ha, rfl⟩
      | ok m =>
       rw [hp] at BA
       clear hp
       go_enter Tryz.func100, Tryz.ntmps100
       go_wp2_with fail
       refine BA.out.mono ?_
       rintro e w2 ⟨ha, v, rfl, rfl, hq⟩
       go_wp2
       go_end0
       exact ⟨ha, _, rfl, rfl, hq⟩
def jcV (m : List Fld × Nat) (num x : Int) : R (List Fld × Nat) := if x = 0 then .ok m else ja9 m (je0 num x)
theorem jcs (lo B : Nat) (l : List Fld) (sz : Nat) (num x : Int) (w : World) (hm : jcU w lo B l sz) (hsz : sz ≤ 16777216) (hl : l.length ≤ 100000000) :
    Calls Tryz.prog 126 #[.pointer (some ⟨B, 0, none⟩), .int .i64 num, .int .i64 x] w (jlz lo w (jcV (l, sz) num x) fun m v w' => v = .tuple #[] ∧ jcU w' lo B m.1 m.2) := by
     by_cases h0 : x = 0
     ·have E : Hid (jcV (l, sz) num x = .ok (l, sz)) := by show _ = _; unfold jcV; rw [if_pos h0]
      have HM := jac hm
      rw [E.out]
      subst h0
      clear hm
      go_enter Tryz.func126, Tryz.ntmps126
      go_wp2
      go_end0
      exact ⟨Abv.refl _ _, _, rfl, rfl, HM.out⟩
     ·have E : Hid (jcV (l, sz) num x = ja9 (l, sz) (je0 num x)) := by show _ = _; unfold jcV; rw [if_neg h0]
      have e0 : (x != 0) = true := by simpa using h0
      rw [E.out]
      clear h0
      obtain ⟨F, hF⟩ : ∃ F, F = (je0 num x) := ⟨_, rfl⟩
      have BF := jac (fun wx => jdL num x wx)
      have PT := jac (fun wx (hg : w.grownBy wx none) => jfI lo B l sz (je0 num x) wx (hm.more hg) (by show 0 ≤ _; omega) hsz hl)
      rw [← hF] at BF PT
      rw [← hF]
      clear hF
      go_enter Tryz.func126, Tryz.ntmps126
      go_wp2_with fail
      refine (BF.out w).mono ?_
      rintro e w1 ⟨rfl, g1⟩
      have P1 := jac (PT.out w1 g1)
      have A1 := jac (jdf (lo := lo) g1 (by simp))
      unfold jcv
      cases hp : ja9 (l, sz) F with
      | error c =>
       rw [hp] at P1
       have HP := jac hp
       clear hp
       go_wp2_with fail
       refine P1.out.mono ?_
       rintro e w2 ⟨ha, rfl⟩
       exact ⟨rfl, jfk HP.out (A1.out.trans ha)⟩
      | ok m =>
       rw [hp] at P1
       have HP := jac hp
       clear hp
       go_wp2_with fail
       refine P1.out.mono ?_
       rintro e w2 ⟨ha, v, rfl, rfl, hq⟩
       go_wp2
       go_end0
       exact jgz HP.out (A1.out.trans ha) ⟨rfl, hq⟩
def jiN (m : List Fld × Nat) (num x : Int) : R (List Fld × Nat) := if x = 0 then .ok m else ja9 m (jfQ num x)
theorem jiO (lo B : Nat) (l : List Fld) (sz : Nat) (num x : Int) (w : World) (hm : jcU w lo B l sz) (hsz : sz ≤ 16777216) (hl : l.length ≤ 100000000) :
    Calls Tryz.prog 143 #[.pointer (some ⟨B, 0, none⟩), .int .i64 num, .int .i64 x] w (jlz lo w (jiN (l, sz) num x) fun m v w' => v = .tuple #[] ∧ jcU w' lo B m.1 m.2) := by
     by_cases h0 : x = 0
     ·have E : Hid (jiN (l, sz) num x = .ok (l, sz)) := by show _ = _; unfold jiN; rw [if_pos h0]
      have HM := jac hm
      rw [E.out]
      subst h0
      clear hm
      go_enter Tryz.func143, Tryz.ntmps143
      go_wp2
      go_end0
      exact ⟨Abv.refl _ _, _, rfl, rfl, HM.out⟩
     ·have E : Hid (jiN (l, sz) num x = ja9 (l, sz) (jfQ num x)) := by show _ = _; unfold jiN; rw [if_neg h0]
      have e0 : (x != 0) = true := by simpa using h0
      rw [E.out]
      clear h0
      obtain ⟨F, hF⟩ : ∃ F, F = (jfQ num x) := ⟨_, rfl⟩
      have BF := jac (fun wx => jee num x wx)
      have PT := jac (fun wx (hg : w.grownBy wx none) => jfI lo B l sz (jfQ num x) wx (hm.more hg) (by show 0 ≤ _; omega) hsz hl)
      rw [← hF] at BF PT
      rw [← hF]
      clear hF
      go_enter Tryz.func143, Tryz.ntmps143
      go_wp2_with fail
      refine (BF.out w).mono ?_
      rintro e w1 ⟨rfl, g1⟩
      have P1 := jac (PT.out w1 g1)
      have A1 := jac (jdf (lo := lo) g1 (by simp))
      unfold jcv
      cases hp : ja9 (l, sz) F with
      | error c =>
       rw [hp] at P1
       have HP := jac hp
       clear hp
       go_wp2_with fail
       refine P1.out.mono ?_
       rintro e w2 ⟨ha, rfl⟩
       exact ⟨rfl, jfk HP.out (A1.out.trans ha)⟩
      | ok m =>
       rw [hp] at P1
       have HP := jac hp
       clear hp
       go_wp2_with fail
       refine P1.out.mono ?_
       rintro e w2 ⟨ha, v, rfl, rfl, hq⟩
       go_wp2
       go_end0
       exact jgz HP.out (A1.out.trans ha) ⟨rfl, hq⟩
def wrP (l : List Fld) : R ByteArray := if (Wr.wrote l).2 = 0 then .ok (Wr.wrote l).1 else .error (Wr.wrote l).2
theorem jbo (lo B : Nat) (l : List Fld) (sz : Nat) (w : World) (hm : jcU w lo B l sz) (hl : l.length ≤ 100000000) (hin : ∀ x ∈ l, Wr.FldIn x) :
    Calls Tryz.prog 72 #[.pointer (some ⟨B, 0, none⟩)] w (jbJ w (wrP l) fun s v _ => v = .string s) := by
     obtain ⟨⟨sa, sn, sc⟩, hb, ho, -⟩ := hm
     simp only [Sl.v] at hb ho
     have W := jac (Wr.write_any (.slice sa sn sc) l w (Wr.OwnsL.flds ho (by omega)) hin)
     obtain ⟨⟨m0, m1⟩, -⟩ := jdK hb
     obtain ⟨q, hq⟩ : ∃ q, q = Wr.wrote l := ⟨_, rfl⟩
     have E : Hid (wrP l = if q.2 = 0 then .ok q.1 else .error q.2) := by show _ = _; unfold wrP; rw [hq]
     rw [← hq] at W
     obtain ⟨s, c⟩ := q
     rw [E.out]
     clear hq hb ho hin E
     simp only at W ⊢
     by_cases h0 : c = 0
     ·subst h0
      rw [if_pos rfl]
      go_enter Tryz.func72, Tryz.ntmps72
      go_wp2_with fail
      refine W.out.mono ?_
      rintro e w1 ⟨rfl, hg⟩
      go_wp2_with (go_at_call 79; refine (jfx _).mono ?_; rintro e w' ⟨rfl, rfl⟩)
      go_ret
      exact jaI rfl hg rfl
     ·rw [if_neg h0]
      have ST := jac (jdX c h0)
      clear h0
      go_enter Tryz.func72, Tryz.ntmps72
      go_wp2_with fail
      refine W.out.mono ?_
      rintro e w1 ⟨rfl, hg⟩
      go_wp2_with (go_at_call 79; refine (ST.out _).mono ?_; rintro e w' ⟨rfl, rfl⟩)
      exact ⟨rfl, jad rfl hg⟩
end Go.Proofs.YtbgbpfbjeleooaaGreat.Pd
namespace Go.Proofs.YtbgbpfbjeleooaaGreat.Pd
open Go.RowKit
open Wr (Fld)
theorem jkV : Go.Proofs.Lays.n166 Tryz.prog jdq := ⟨jaq.mixed, jaq.f166, jaq.f240, jaq.f276, jaq.t0, jaq.a0, jaq.z0, jaq.v0, jaq.t3, jaq.a3, jaq.z3, jaq.v3, jaq.t4, jaq.a4, jaq.z4, jaq.v4, jaq.t9, jaq.a9, jaq.z9, jaq.v9, jaq.t20, jaq.a20, jaq.z20, jaq.v20, jaq.t37, jaq.a37, jaq.z37, jaq.v37, jaq.t70, jaq.a70, jaq.z70, jaq.v70, jaq.t72, jaq.a72, jaq.z72, jaq.v72, jaq.t75, jaq.a75, jaq.z75, jaq.v75, jaq.t164, jaq.a164, jaq.z164, jaq.v164⟩
theorem jkW : Go.Proofs.Lays.n169 Tryz.prog jdq := ⟨jaq.mixed, jaq.f169, jaq.t0, jaq.a0, jaq.z0, jaq.v0, jaq.t3, jaq.a3, jaq.z3, jaq.v3, jaq.t9, jaq.a9, jaq.z9, jaq.v9, jaq.t37, jaq.a37, jaq.z37, jaq.v37, jaq.t70, jaq.a70, jaq.z70, jaq.v70, jaq.t72, jaq.a72, jaq.z72, jaq.v72, jaq.t127, jaq.a127, jaq.z127, jaq.v127⟩
theorem jiP (B b : Nat) (bs : List Value) (s : ByteArray) (w : World) (h : Lib.IsBuilder 130 5 B b bs w) (hlen : bs.length + s.size ≤ 140737488355328) (hBw : B ≤ w.heap.size) :
    Calls Tryz.prog 85 #[.pointer (some ⟨b, 0, none⟩), .string s] w fun e w' => e = .returned (.tuple #[.int .i64 s.size, .nilIface]) ∧ (Lib.BuilderAt 130 5 B b (.pointer (some ⟨b, 0, none⟩)) (bs ++ Lib.strCells s) w' ∧ Below B w w') :=
     Any.Builder_WriteString jkV jbX B b bs s w h hlen hBw
theorem jhK (B b : Nat) (l : List UInt8) (w : World) (h : Lib.IsBuilder 130 5 B b (Lib.byteCells l) w) (hBw : B ≤ w.heap.size) :
    Calls Tryz.prog 86 #[.pointer (some ⟨b, 0, none⟩)] w fun e w' => e = .returned (.string ⟨l.toArray⟩) ∧ Below B w w' :=
     Any.Builder_String_any jkW jbX B b l w h hBw
theorem jg7 {B : Nat} {w w' : World} (h : Below B w w') : Abv B w w' := ⟨h.os, h.tape, h.output, h.size, fun i h1 _ => h.block i h1⟩
def jcl (l : List Int) : List UInt8 := l.flatMap fun x => (Wr.sof (Wr.vb (x % 18446744073709551616).toNat)).data.toList
theorem jid (u : Nat) : (Wr.sof (Wr.vb u)).size ≤ 11 := by rw [Wr.sof_size]; exact (Wr.vbF_len 10 u).2
theorem jdM : ∀ l : List Int, (jcl l).length ≤ 11 * l.length
 | [] => by simp [jcl]
 | x :: l => by
  have h1 := jdM l
  have h2 := jid (x % 18446744073709551616).toNat
  unfold jcl at h1 ⊢
  rw [List.flatMap_cons, List.length_append, List.length_cons, Array.length_toList]
  have h3 : (Wr.sof (Wr.vb (x % 18446744073709551616).toNat)).data.size = (Wr.sof (Wr.vb (x % 18446744073709551616).toNat)).size := rfl
  omega
def jbF (num : Int) (l : List Int) : Fld := if l.length = 1 then je0 num (l.headD 0) else jaW num ⟨(jcl l).toArray⟩
theorem jf6 (num : Int) (l : List Int) : (jbF num l).b.size ≤ 11 * l.length := by
 unfold jbF
 split
 ·show 0 ≤ _; omega
 ·have := jdM l
  show (jcl l).toArray.size ≤ _
  simpa using this
theorem jg8 (w : World) (B : Nat) (hB : B ≤ w.heap.size) : Lib.IsBuilder 130 5 B w.heap.size (Lib.byteCells []) (w.alloc (.cells #[.pointer none, .slice none 0 0] 130)) :=
 .inl ⟨hB, .slice none 0 0, heap_alloc_new w _, World.ownsRow_nil _ _ _ _, by simp [Value.ownBlock]⟩
theorem jcb (num : Int) (v : Value) (l : List Int) (w : World) (hv : jax w v l) (hl : l.length ≤ 100000000) :
    Calls Tryz.prog 144 #[.int .i64 num, v] w fun e w' => e = .returned (jcv (jbF num l)) ∧ w.grownBy w' none := by
     have HV := jac hv
     obtain ⟨ao, cap, rfl, c1, c2, c3, c4, c5, c6⟩ := hv
     obtain ⟨bR, hR⟩ : ∃ b, b = w.heap.size := ⟨_, rfl⟩
     have C5 : Hid (∀ wx, w.grownBy wx none → 0 < l.length → ∃ b off, ao = some ⟨b, off, none⟩ ∧ ∀ t, t < l.length → wx.cell? ⟨b, off + t, none⟩ = some (.int .i64 (l.getD t 0))) := fun wx hx hp => by
      obtain ⟨ao', cap', e, -, -, -, -, h5, -⟩ := HV.out.more hx
      cases e
      exact h5 hp
     clear c4 c5 HV
     by_cases h1 : l.length = 1
     ·obtain ⟨x, rfl⟩ := List.length_eq_one_iff.1 h1
      have E : Hid (jbF num [x] = je0 num x) := rfl
      rw [E.out]
      have g1 := jab w (.cells #[.int .i64 0, .int .i64 0, .int .u64 0, .string ⟨#[]⟩] 49)
      obtain ⟨b, off, rfl, hc⟩ := C5.out _ g1 (by simp)
      have a0 := hc 0 (by simp)
      simp only [Nat.add_zero, List.getD_cons_zero, List.length_cons, List.length_nil, Nat.zero_add] at a0 ⊢
      have hb := heap_alloc_new w (.cells #[.int .i64 0, .int .i64 0, .int .u64 0, .string ⟨#[]⟩] 49)
      rw [← hR] at hb
      clear C5 hc h1 c1 c3 c6
      go_enter Tryz.func144, Tryz.ntmps144
      go_wp2_with fail
      refine (jdL num x _).mono ?_
      rintro e w2 ⟨rfl, g2⟩
      unfold jcv je0
      simp only
      have B2 := (g2.block bR (Array.getElem?_eq_some_iff.1 hb).1 (by simp)).trans hb
      have X := jac (jgA (cs := #[.int .i64 num, .int .i64 0, .int .u64 (x % 18446744073709551616), .string ⟨#[]⟩]) B2)
      have G := jac (jaf (row := none) (jaa g1 g2) X.out.2 (fun g e => by cases e; exact .inr (Nat.le_of_eq hR.symm)))
      rw [← hR]
      clear a0 g1 g2 hb hR
      go_wp2_with (refine wpList_store_row rfl 49 (.tmp 4) (.tmp 15) rfl bR #[.int .i64 num, .int .i64 0, .int .u64 (x % 18446744073709551616), .string ⟨#[]⟩] rfl rfl 49 _ B2 jcx rfl (by simp [Value.oneCell']) ?_)
      refine bodyPost_ret (jca rfl _ _ bR rfl X.out.1) rfl ?_
      exact ⟨rfl, G.out⟩
     ·have E : Hid (jbF num l = jaW num ⟨(jcl l).toArray⟩) := by show _ = _; unfold jbF; rw [if_neg h1]
      have n1 : ((l.length : Int) == 1) = false := beq_eq_false_iff_ne.2 (by omega)
      rw [E.out]
      have g1 := jab w (.cells #[.int .i64 0, .int .i64 0, .int .u64 0, .string ⟨#[]⟩] 49)
      have hb := heap_alloc_new w (.cells #[.int .i64 0, .int .i64 0, .int .u64 0, .string ⟨#[]⟩] 49)
      obtain ⟨w1, hw1⟩ : ∃ w1, w1 = w.alloc (.cells #[.int .i64 0, .int .i64 0, .int .u64 0, .string ⟨#[]⟩] 49) := ⟨_, rfl⟩
      rw [← hw1, ← hR] at hb
      rw [← hw1] at g1
      have s1 : w1.heap.size = w.heap.size + 1 := by rw [hw1, jas]
      have hz := jg8 w1 (bR + 1) (by omega)
      have g2 := jab w1 (.cells #[.pointer none, .slice none 0 0] 130)
      obtain ⟨w2, hw2⟩ : ∃ w2, w2 = w1.alloc (.cells #[.pointer none, .slice none 0 0] 130) := ⟨_, rfl⟩
      obtain ⟨bB, hB⟩ : ∃ b, b = w.heap.size + 1 := ⟨_, rfl⟩
      rw [← hw2, s1, ← hB] at hz
      rw [← hw2] at g2
      have R2 : w2.heap[bR]? = some (.cells #[.int .i64 0, .int .i64 0, .int .u64 0, .string ⟨#[]⟩] 49 (0, 0)) := (g2.block bR (by omega) (by simp)).trans hb
      have G2 := jaa g1 g2
      have S2 : Hid (bR + 1 ≤ w2.heap.size) := by have := g2.size; show _ ≤ _; omega
      have RI : Hid (bR = w.heap.size) := hR
      have C6 := jac c6
      obtain ⟨n, hn⟩ : ∃ n, n = l.length := ⟨_, rfl⟩
      have HN := jac hn
      rw [← hn] at c1 c3 hl n1 ⊢
      clear h1 g1 hb s1 g2 hn c6
      go_enter Tryz.func144, Tryz.ntmps144
      go_wp2_with fail
      rw [← hw1, ← hw2, ← hB, ← hR]
      clear hw1 hw2 hR hB
      go_loopw [18] (fun iv wr => ∃ k : Nat, k ≤ n ∧ iv = .int .i64 k ∧ Lib.IsBuilder 130 5 (bR + 1) bB (Lib.byteCells (jcl (l.take k))) wr ∧ wr.heap[bR]? = some (.cells #[.int .i64 0, .int .i64 0, .int .u64 0, .string ⟨#[]⟩] 49 (0, 0)) ∧ w.grownBy wr none ∧ bR + 1 ≤ wr.heap.size) (fun iv _ => n - (intOf iv).toNat)
      case atStart => exact ⟨0, Nat.zero_le _, rfl, hz, R2, G2, S2.out⟩
      case round =>
       obtain ⟨k, hk, rfl, hbd, hrr, hg, hs⟩ := hrel
       rename_i wr
       have HBD := jac hbd
       have HR := jac hrr
       have HG := jac hg
       have HS := jac hs
       clear hbd hrr hz R2 G2
       by_cases hlt : k < n
       ·obtain ⟨b, off, rfl, hc⟩ := C5.out wr hg (by have := HN.out; omega)
        have a0 : wr.cell? ⟨b, off + k, none⟩ = some (.int .i64 (l.getD k 0)) := hc k (by have := HN.out; omega)
        have TK : Hid (jcl (l.take (k + 1)) = jcl (l.take k) ++ (Wr.sof (Wr.vb (l.getD k 0 % 18446744073709551616).toNat)).data.toList) := by
         show _ = _
         have hk2 : k < l.length := by have := HN.out; omega
         rw [List.take_succ_eq_append_getElem hk2]
         unfold jcl
         rw [List.flatMap_append, List.getD, List.getElem?_eq_getElem hk2]
         simp
        obtain ⟨x, hx⟩ : ∃ x, x = l.getD k 0 := ⟨_, rfl⟩
        rw [← hx] at a0 TK
        have VX := jac (fun wx => Wr.varintS_any (x % 18446744073709551616).toNat wx (by omega))
        rw [Int.toNat_of_nonneg (by omega)] at VX
        have VS := jac (jid (x % 18446744073709551616).toNat)
        obtain ⟨T, hT⟩ : ∃ T, T = Wr.sof (Wr.vb (x % 18446744073709551616).toNat) := ⟨_, rfl⟩
        rw [← hT] at VX VS TK
        have PL := jac (jdM (l.take k))
        clear hg hs hc hx hT
        go_wp2_with fail
        refine (VX.out _).mono ?_
        rintro e w4 ⟨rfl, g4⟩
        have s4 := g4.size
        have hbd4 : Lib.IsBuilder 130 5 (bR + 1) bB (Lib.byteCells (jcl (l.take k))) w4 := by
         have keep : ∀ p, Lib.BuilderAt 130 5 (bR + 1) bB p (Lib.byteCells (jcl (l.take k))) wr → Lib.BuilderAt 130 5 (bR + 1) bB p (Lib.byteCells (jcl (l.take k))) w4 := fun p h => by
          obtain ⟨h1, v, h2, h3, h4⟩ := h
          exact ⟨h1, v, (g4.block bB (Array.getElem?_eq_some_iff.1 h2).1 (by simp)).trans h2, World.ownsRow.kept h3 g4 (by cases v.ownBlock <;> simp), h4⟩
         rcases HBD.out with h | h
         ·exact .inl (keep _ h)
         ·exact .inr (keep _ h)
        have WS := jac (jiP (bR + 1) bB _ T w4 hbd4 (by rw [Lib.byteCells_length]; have h5 := PL.out; have := VS.out; rw [List.length_take] at h5; have h6 : min k l.length ≤ k := Nat.min_le_left _ _; omega) (by have := HS.out; omega))
        have HR4 := jac ((g4.block bR (by have := HS.out; omega) (by simp)).trans HR.out)
        have HG4 := jac (jaa HG.out g4)
        have HS4 : Hid (bR + 1 ≤ w4.heap.size) := by have := HS.out; show _ ≤ _; omega
        clear g4 s4 hbd4
        go_wp2_with fail
        refine WS.out.mono ?_
        rintro e w5 ⟨rfl, hb5, hbl⟩
        have RES : Hid (Lib.IsBuilder 130 5 (bR + 1) bB (Lib.byteCells (jcl (l.take (k + 1)))) w5 ∧ w5.heap[bR]? = some (.cells #[.int .i64 0, .int .i64 0, .int .u64 0, .string ⟨#[]⟩] 49 (0, 0)) ∧ w.grownBy w5 none ∧ bR + 1 ≤ w5.heap.size) := by
         refine ⟨.inr ?_, (hbl.block bR (by omega)).trans HR4.out, Abv.grown HG4.out (by have := RI.out; omega) (jg7 hbl), Nat.le_trans HS4.out hbl.size⟩
         rw [TK.out]
         unfold Lib.byteCells
         rw [List.map_append]
         exact hb5
        clear hb5 hbl
        go_wp2_with fail
        go_roundw
        case rel => exact ⟨k + 1, by omega, by go_num, RES.out.1, RES.out.2.1, RES.out.2.2.1, RES.out.2.2.2⟩
        case measure => simp [intOf]; omega
       ·obtain rfl : k = n := by omega
        rw [HN.out, List.take_length] at HBD
        have BS := jac (jhK (bR + 1) bB (jcl l) wr HBD.out HS.out)
        have PL := jac (jdM l)
        clear hg hs
        go_wp2_with fail
        refine BS.out.mono ?_
        rintro e w4 ⟨rfl, hbl⟩
        have HR4 := jac ((hbl.block bR (by omega)).trans HR.out)
        have HG4 := jac (Abv.grown HG.out (by have := RI.out; omega) (jg7 hbl))
        obtain ⟨s, hs⟩ : ∃ s : ByteArray, s = ⟨(jcl l).toArray⟩ := ⟨_, rfl⟩
        rw [← hs]
        have HE := jac hs
        clear hbl hs
        go_wp2_with fail
        refine (jc2 num s w4).mono ?_
        rintro e w5 ⟨rfl, g5⟩
        unfold jcv jaW
        simp only
        have B5 := (g5.block bR (Array.getElem?_eq_some_iff.1 HR4.out).1 (by simp)).trans HR4.out
        have X := jac (jgA (cs := #[.int .i64 num, .int .i64 2, .int .u64 0, .string s]) B5)
        have G := jac (jaf (row := none) (jaa HG4.out g5) X.out.2 (fun g e => by cases e; exact .inr (Nat.le_of_eq RI.out.symm)))
        clear g5
        go_wp2_with (refine wpList_store_row rfl 49 (.tmp 4) (.tmp 29) rfl bR #[.int .i64 num, .int .i64 2, .int .u64 0, .string s] rfl rfl 49 _ B5 jcx rfl (by simp [Value.oneCell']) ?_)
        refine bodyPost_ret (jca rfl _ _ bR rfl X.out.1) rfl ?_
        exact ⟨by rw [← HE.out]; rfl, G.out⟩
end Go.Proofs.YtbgbpfbjeleooaaGreat.Pd
