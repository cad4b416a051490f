/- The first attribute that is so called, by the walk. -/
import Derived.Test.YteigfipgmghgmaaGreatDoorNBase
namespace Go.Proofs.YteigfipgmghgmaaGreatDoor
open Go.RowKit

theorem box_kept {w w' : World} {B : Nat} {o : Obj} (hb : w.heap[B]? = some o) (hg : w.grownBy w' none) : w'.heap[B]? = some o := (hg.block B (Array.getElem?_eq_some_iff.1 hb).1 (by simp)).trans hb

/-- Is an attribute so called, and of that kind? -/
def isA (nm : ByteArray) (kd : Int) (a : Atr) : Bool := (a.name.toList == nm.toList) && (a.kind == kd)

set_option maxRecDepth 100000 in
set_option maxHeartbeats 1600000 in
theorem named1_any (a : Atr) (p q : Nat) (nm : ByteArray) (kd : Int) (w : World) (hp : w.heap[p]? = some (.cells #[.string nm] 9 (0, 0))) (hq : w.heap[q]? = some (.cells #[.int .i64 kd] 3 (0, 0))) :
    Calls Tryz.prog 91 #[aval a, .pointer (some ⟨p, 0, none⟩), .pointer (some ⟨q, 0, none⟩)] w fun e w' => e = .returned (.bool (isA nm kd a)) ∧ w.grownBy w' none := by
  have g0 := grown_new w (.cells #[.string a.name, .int .i64 a.kind, .int .i64 a.f, .int .i64 a.i, .string a.s, .int .i64 a.ty, .slice a.dv.a a.dv.n a.dv.c, .slice a.tv.a a.tv.n a.tv.c, .slice a.iv.a a.iv.n a.iv.c] 92)
  obtain ⟨c0, c1, -⟩ := atr_cells (heap_alloc_new w (.cells #[.string a.name, .int .i64 a.kind, .int .i64 a.f, .int .i64 a.i, .string a.s, .int .i64 a.ty, .slice a.dv.a a.dv.n a.dv.c, .slice a.tv.a a.tv.n a.tv.c, .slice a.iv.a a.iv.n a.iv.c] 92))
  have cp := one_cell (box_kept hp g0)
  have cq := one_cell (box_kept hq g0)
  have G0 := hide g0
  clear hp hq g0
  unfold aval
  by_cases hn : (a.name.toList == nm.toList) = true
  · go_enter Tryz.func91, Tryz.ntmps91
    go_wp2
    go_ret
    exact ⟨by simp [isA, hn], G0.out⟩
  · have hn' : (a.name.toList == nm.toList) = false := by simpa using hn
    clear hn
    go_enter Tryz.func91, Tryz.ntmps91
    go_wp2
    go_ret
    exact ⟨by simp [isA, hn'], G0.out⟩

/-- The place of the first one that is so, or none. -/
def place {α : Type} (P : α → Bool) : List α → Nat → Int
  | [], _ => -1
  | x :: l, k => if P x then k else place P l (k + 1)

theorem place_at {α : Type} {P : α → Bool} {xs : List α} {k : Nat} (hk : k < xs.length) (h : P xs[k] = true) : place P (xs.drop k) k = k := by
  rw [List.drop_eq_getElem_cons hk, place, if_pos h]

theorem place_past {α : Type} {P : α → Bool} {xs : List α} {k : Nat} (hk : k < xs.length) (h : P xs[k] = false) : place P (xs.drop k) k = place P (xs.drop (k + 1)) (k + 1) := by
  rw [List.drop_eq_getElem_cons hk, place, if_neg (by rw [h]; decide)]

set_option maxRecDepth 100000 in
set_option maxHeartbeats 1600000 in
theorem index_named (v : Value) (xs : List Atr) (p q : Nat) (nm : ByteArray) (kd : Int) (w : World) (hv : IsAttrs w v xs) (hp : w.heap[p]? = some (.cells #[.string nm] 9 (0, 0))) (hq : w.heap[q]? = some (.cells #[.int .i64 kd] 3 (0, 0))) :
    Calls Tryz.prog 90 #[v, .func (.func 91) #[] #[.pointer (some ⟨p, 0, none⟩), .pointer (some ⟨q, 0, none⟩)]] w fun e w' => e = .returned (.int .i64 (place (isA nm kd) xs 0)) ∧ w.grownBy w' none := by
  have HV := hide hv
  obtain ⟨ao, cap, rfl, h1, h2, h3⟩ := hv.form
  have HP := hide hp
  have HQ := hide hq
  clear hv hp hq
  go_enter Tryz.func90, Tryz.ntmps90
  go_wp2_with fail
  go_loopw [8] (fun i wr => w.grownBy wr none ∧ ∃ k : Nat, k ≤ xs.length ∧ i = .int .i64 k ∧ place (isA nm kd) xs 0 = place (isA nm kd) (xs.drop k) k) (fun i _ => xs.length - (intOf i).toNat)
  case atStart => exact ⟨grown_refl _, 0, Nat.zero_le _, rfl, rfl⟩
  case round =>
    obtain ⟨hg, k, hk, rfl, hpl⟩ := hrel
    have HPL := hide hpl
    clear hpl
    by_cases hlt : k < xs.length
    · have HVk := HV.out.more hg
      obtain ⟨b, off, rfl⟩ := HVk.addr hlt
      obtain ⟨a0, a1, a2, a3, a4, a5, a6, a7, a8⟩ := HVk.attr k hlt
      have NA := hide (fun (wx : World) (hx : w.grownBy wx none) => named1_any xs[k] p q nm kd wx (box_kept HP.out hx) (box_kept HQ.out hx))
      clear HVk
      go_wp2_with fail
      refine (NA.out wr hg).mono ?_
      rintro e w1 ⟨rfl, hg1⟩
      have g1 := grown_trans hg hg1
      cases ht : isA nm kd xs[k] with
      | true =>
        have HT := hide ht
        clear ht
        go_wp2
        go_ret
        exact ⟨by rw [HPL.out, place_at hlt HT.out]; rfl, g1⟩
      | false =>
        have HT := hide ht
        clear ht
        go_wp2
        go_roundw
        case rel => exact ⟨g1, k + 1, by omega, by go_num, by rw [HPL.out, place_past hlt HT.out]⟩
        case measure => simp [intOf]; omega
    · obtain rfl : k = xs.length := by omega
      go_wp2
      go_ret
      exact ⟨by rw [HPL.out, List.drop_of_length_le (Nat.le_refl _)]; rfl, hg⟩

theorem place_cases {α : Type} (P : α → Bool) : ∀ (xs : List α) (k : Nat), (place P xs k = -1 ∧ xs.find? P = none) ∨ ∃ j, ∃ hj : j < xs.length, place P xs k = ((k + j : Nat) : Int) ∧ xs.find? P = some xs[j]
  | [], k => Or.inl ⟨rfl, rfl⟩
  | x :: l, k => by
    cases h : P x with
    | true => exact Or.inr ⟨0, by simp, by simp [place, h], by simp [h]⟩
    | false =>
      rcases place_cases P l (k + 1) with ⟨e1, e2⟩ | ⟨j, hj, e1, e2⟩
      · exact Or.inl ⟨by simp [place, h, e1], by simp [h, e2]⟩
      · exact Or.inr ⟨j + 1, by simpa using hj, by simp only [place, h, e1]; simp; omega, by simp [h, e2]⟩

/-- A node, as its cells have it. -/
structure Nod where
  op : ByteArray
  name : ByteArray
  iv : Sl
  out : ByteArray
  av : Sl

def nval (n : Nod) : Value := .agg #[.string n.op, .string n.name, .slice n.iv.a n.iv.n n.iv.c, .string n.out, .slice n.av.a n.av.n n.av.c]

theorem nod_cells {w : World} {B : Nat} {n : Nod} (hb : w.heap[B]? = some (.cells #[.string n.op, .string n.name, .slice n.iv.a n.iv.n n.iv.c, .string n.out, .slice n.av.a n.av.n n.av.c] 25 (0, 0))) :
    w.cell? ⟨B, 0, none⟩ = some (.string n.op) ∧ w.cell? ⟨B, 1, none⟩ = some (.string n.name) ∧ w.cell? ⟨B, 2, none⟩ = some (.slice n.iv.a n.iv.n n.iv.c) ∧ w.cell? ⟨B, 3, none⟩ = some (.string n.out) ∧ w.cell? ⟨B, 4, none⟩ = some (.slice n.av.a n.av.n n.av.c) :=
  ⟨(cell_of_row _ _ 0 _ _ (0, 0) hb).trans rfl, (cell_of_row _ _ 1 _ _ (0, 0) hb).trans rfl, (cell_of_row _ _ 2 _ _ (0, 0) hb).trans rfl, (cell_of_row _ _ 3 _ _ (0, 0) hb).trans rfl, (cell_of_row _ _ 4 _ _ (0, 0) hb).trans rfl⟩

def noAtr : Atr := ⟨⟨#[]⟩, 0, 0, 0, ⟨#[]⟩, 0, ⟨none, 0, 0⟩, ⟨none, 0, 0⟩, ⟨none, 0, 0⟩⟩

theorem grown_same {a b c : World} {g : Nat} (h : a.grownBy b (some g)) (k : b.grownBy c (some g)) : a.grownBy c (some g) :=
  ⟨k.os.trans h.os, k.tape.trans h.tape, k.output.trans h.output, Nat.le_trans h.size k.size, fun j hj hne => (k.block j (Nat.lt_of_lt_of_le hj h.size) hne).trans (h.block j hj hne)⟩

abbrev put9 (w : World) (B : Nat) (a0 a1 a2 a3 a4 a5 a6 a7 a8 : Value) : World :=
  ((((((((w.setCell ⟨B, 0, none⟩ a0).setCell ⟨B, 1, none⟩ a1).setCell ⟨B, 2, none⟩ a2).setCell ⟨B, 3, none⟩ a3).setCell ⟨B, 4, none⟩ a4).setCell ⟨B, 5, none⟩ a5).setCell ⟨B, 6, none⟩ a6).setCell ⟨B, 7, none⟩ a7).setCell ⟨B, 8, none⟩ a8

/-- The nine cells of an attribute, written anew. -/
theorem store9 {w w3 : World} {B : Nat} {z0 z1 z2 z3 z4 z5 z6 z7 z8 : Value} (a0 a1 a2 a3 a4 a5 a6 a7 a8 : Value) (hg : w.grownBy w3 none) (hB : w.heap.size ≤ B) (hb : w3.heap[B]? = some (.cells #[z0, z1, z2, z3, z4, z5, z6, z7, z8] 92 (0, 0))) :
    (put9 w3 B a0 a1 a2 a3 a4 a5 a6 a7 a8).heap[B]? = some (.cells #[a0, a1, a2, a3, a4, a5, a6, a7, a8] 92 (0, 0)) ∧ w.grownBy (put9 w3 B a0 a1 a2 a3 a4 a5 a6 a7 a8) none := by
  have h1 := heap_setCell_same w3 B 0 _ _ a0 hb
  have h2 := heap_setCell_same _ B 1 _ _ a1 h1
  have h3 := heap_setCell_same _ B 2 _ _ a2 h2
  have h4 := heap_setCell_same _ B 3 _ _ a3 h3
  have h5 := heap_setCell_same _ B 4 _ _ a4 h4
  have h6 := heap_setCell_same _ B 5 _ _ a5 h5
  have h7 := heap_setCell_same _ B 6 _ _ a6 h6
  have h8 := heap_setCell_same _ B 7 _ _ a7 h7
  have h9 := heap_setCell_same _ B 8 _ _ a8 h8
  have g : ∀ (x : World) (j : Nat) (v : Value), x.grownBy (x.setCell ⟨B, j, none⟩ v) (some B) := fun x j v =>
    ⟨rfl, rfl, rfl, by simp [World.setCell], fun k _ hk => Below.heap_setCell _ _ _ _ (fun e => hk (by rw [e]))⟩
  have g9 := grown_same (grown_same (grown_same (grown_same (grown_same (grown_same (grown_same (grown_same (g w3 0 a0) (g _ 1 a1)) (g _ 2 a2)) (g _ 3 a3)) (g _ 4 a4)) (g _ 5 a5)) (g _ 6 a6)) (g _ 7 a7)) (g _ 8 a8)
  exact ⟨by simpa using h9, grown_trans_row hg g9 (fun r e => by cases e; exact hB)⟩

theorem atr_frozen {w : World} {B : Nat} {z0 z1 z2 z3 z4 z5 z6 z7 z8 : Value} (hb : w.heap[B]? = some (.cells #[z0, z1, z2, z3, z4, z5, z6, z7, z8] 92 (0, 0))) :
    w.frozen? ⟨B, 0, none⟩ = false ∧ w.frozen? ⟨B, 1, none⟩ = false ∧ w.frozen? ⟨B, 2, none⟩ = false ∧ w.frozen? ⟨B, 3, none⟩ = false ∧ w.frozen? ⟨B, 4, none⟩ = false ∧ w.frozen? ⟨B, 5, none⟩ = false ∧ w.frozen? ⟨B, 6, none⟩ = false ∧ w.frozen? ⟨B, 7, none⟩ = false ∧ w.frozen? ⟨B, 8, none⟩ = false :=
  ⟨frozen_of_row w B 0 _ _ hb, frozen_of_row w B 1 _ _ hb, frozen_of_row w B 2 _ _ hb, frozen_of_row w B 3 _ _ hb, frozen_of_row w B 4 _ _ hb, frozen_of_row w B 5 _ _ hb, frozen_of_row w B 6 _ _ hb, frozen_of_row w B 7 _ _ hb, frozen_of_row w B 8 _ _ hb⟩

theorem attrInfo : (Tryz.prog.info? 92).map (·.size) = some 9 := by kernel_rfl
theorem ret_atr {fn : Func} {p u : Tmp} (h : fn.results = #[.cell p 92, .tmp u]) (tmps : Array Value) (w : World) (B : Nat) (hp : tmps.getD p undef = .pointer (some ⟨B, 0, none⟩)) {a0 a1 a2 a3 a4 a5 a6 a7 a8 : Value}
    (hb : w.heap[B]? = some (.cells #[a0, a1, a2, a3, a4, a5, a6, a7, a8] 92 (0, 0))) : (results fn tmps).run Tryz.prog w = .ok (.tuple #[.agg #[a0, a1, a2, a3, a4, a5, a6, a7, a8], tmps.getD u undef]) w := by
  have hl := run_loadVar_row (P := Tryz.prog) w B _ 92 #[a0, a1, a2, a3, a4, a5, a6, a7, a8] (0, 0) _ hb Tryz.underlying92 rfl (by rw [attrInfo]; rfl)
  rw [results_cell_tmp h, hp]
  simp [asAddr, hl, Result.andThen]

theorem two_boxes (w : World) (o o' : Obj) : ((w.alloc o).alloc o').heap[w.heap.size]? = some o ∧ ((w.alloc o).alloc o').heap[w.heap.size + 1]? = some o' := by
  refine ⟨box_kept (heap_alloc_new w o) (grown_new _ _), ?_⟩
  have := heap_alloc_new (w.alloc o) o'
  simpa using this

set_option maxRecDepth 100000 in
set_option maxHeartbeats 1600000 in
theorem first_named (n : Nod) (xs : List Atr) (p q : Nat) (nm : ByteArray) (kd : Int) (w : World) (hv : IsAttrs w n.av.v xs) (hp : w.heap[p]? = some (.cells #[.string nm] 9 (0, 0))) (hq : w.heap[q]? = some (.cells #[.int .i64 kd] 3 (0, 0))) :
    Calls Tryz.prog 57 #[nval n, .func (.func 91) #[] #[.pointer (some ⟨p, 0, none⟩), .pointer (some ⟨q, 0, none⟩)]] w fun e w' => e = .returned (.tuple #[aval ((xs.find? (isA nm kd)).getD noAtr), .bool (xs.find? (isA nm kd)).isSome]) ∧ w.grownBy w' none := by
  obtain ⟨op, nam, ⟨ia, il, ic⟩, out, ⟨ao, al, cap⟩⟩ := n
  simp only at hv
  obtain ⟨ao', cap', hav, h1, h2, h3⟩ := hv.form
  obtain ⟨rfl, rfl, rfl⟩ : ao = ao' ∧ al = xs.length ∧ cap = cap' := by simpa [Sl.v] using hav
  have HV := hide hv
  clear hv hav
  unfold nval
  obtain ⟨w0, hw0⟩ : ∃ w0, w0 = (w.alloc (.cells #[.string op, .string nam, .slice ia il ic, .string out, .slice ao xs.length cap] 25)).alloc (.cells #[.string ⟨#[]⟩, .int .i64 0, .int .i64 0, .int .i64 0, .string ⟨#[]⟩, .int .i64 0, .slice none 0 0, .slice none 0 0, .slice none 0 0] 92) := ⟨_, rfl⟩
  have g0 : w.grownBy w0 none := by rw [hw0]; exact grown_trans (grown_new _ _) (grown_new _ _)
  have hbx := two_boxes w (.cells #[.string op, .string nam, .slice ia il ic, .string out, .slice ao xs.length cap] 25) (.cells #[.string ⟨#[]⟩, .int .i64 0, .int .i64 0, .int .i64 0, .string ⟨#[]⟩, .int .i64 0, .slice none 0 0, .slice none 0 0, .slice none 0 0] 92)
  rw [← hw0] at hbx
  have BX := hide hbx
  have IX := hide (index_named _ xs p q nm kd w0 (HV.out.more g0) (box_kept hp g0) (box_kept hq g0))
  clear hp hq hbx
  go_enter Tryz.func57, Tryz.ntmps57
  go_wp2_with fail
  rw [← hw0]
  clear hw0
  refine IX.out.mono ?_
  rintro e w1 ⟨rfl, hg1⟩
  have g1 := grown_trans g0 hg1
  have B1 := hide (And.intro (box_kept BX.out.1 hg1) (box_kept BX.out.2 hg1))
  obtain ⟨-, -, -, -, n4⟩ := nod_cells (n := ⟨op, nam, ⟨ia, il, ic⟩, out, ⟨ao, xs.length, cap⟩⟩) B1.out.1
  obtain ⟨f0, f1, f2, f3, f4, f5, f6, f7, f8⟩ := atr_frozen B1.out.2
  obtain ⟨k0, k1, k2, k3, k4, k5, k6, k7, k8⟩ := atr_cells (a := noAtr) B1.out.2
  rcases place_cases (isA nm kd) xs 0 with ⟨e1, e2⟩ | ⟨j, hj, e1, e2⟩
  · rw [e1]
    have E2 := hide e2
    obtain ⟨hX, gX⟩ := store9 (.string ⟨#[]⟩) (.int .i64 0) (.int .i64 0) (.int .i64 0) (.string ⟨#[]⟩) (.int .i64 0) (.slice none 0 0) (.slice none 0 0) (.slice none 0 0) g1 (show w.heap.size ≤ w.heap.size + 1 by omega) B1.out.2
    have HX := hide hX
    have GX := hide gX
    clear hX gX e1 e2
    go_wp2
    refine bodyPost_ret (ret_atr rfl _ _ (w.heap.size + 1) rfl HX.out) rfl ?_
    exact ⟨by rw [E2.out]; rfl, GX.out⟩
  · rw [e1]
    have E2 := hide e2
    have HV1 := HV.out.more g1
    obtain ⟨b, off, rfl⟩ := HV1.addr hj
    obtain ⟨a0, a1, a2, a3, a4, a5, a6, a7, a8⟩ := HV1.attr j hj
    obtain ⟨hX, gX⟩ := store9 (.string xs[j].name) (.int .i64 xs[j].kind) (.int .i64 xs[j].f) (.int .i64 xs[j].i) (.string xs[j].s) (.int .i64 xs[j].ty) (.slice xs[j].dv.a xs[j].dv.n xs[j].dv.c) (.slice xs[j].tv.a xs[j].tv.n xs[j].tv.c) (.slice xs[j].iv.a xs[j].iv.n xs[j].iv.c) g1 (show w.heap.size ≤ w.heap.size + 1 by omega) B1.out.2
    have HX := hide hX
    have GX := hide gX
    clear hX gX e1 e2 HV1
    rw [show ((0 + j : Nat) : Int) = (j : Int) by simp]
    go_wp2
    refine bodyPost_ret (ret_atr rfl _ _ (w.heap.size + 1) rfl HX.out) rfl ?_
    exact ⟨by rw [E2.out]; rfl, GX.out⟩
end Go.Proofs.YteigfipgmghgmaaGreatDoor
