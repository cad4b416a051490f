/- How the lists of who reads whose value lie, and what a call that writes them leaves as it was. -/
import Derived.Test.YtmdpeckeliplkaaDoorLvPJ
import Derived.Test.YtmdpeckeliplkaaDoorGLinksJ
namespace Go.Proofs.YtmdpeckeliplkaaDoor
open Go.RowKit

/-- A block that holds numbers or lists of numbers. -/
def Num (o : Obj) : Prop := ∃ c sy, o = .cells c 3 sy ∨ o = .cells c 40 sy

/-- All that lies ahead of a place is as it was, and all that is neither numbers nor lists of numbers. -/
structure Frm (S : Nat) (w w' : World) : Prop where
  os : w'.os = w.os
  tape : w'.tape = w.tape
  output : w'.output = w.output
  size : w.heap.size ≤ w'.heap.size
  low : ∀ B : Nat, B < S → w'.heap[B]? = w.heap[B]?
  oth : ∀ (B : Nat) (o : Obj), w.heap[B]? = some o → ¬ Num o → w'.heap[B]? = some o

theorem heap_lt {w : World} {B : Nat} {o : Obj} (h : w.heap[B]? = some o) : B < w.heap.size := by
  rcases Nat.lt_or_ge B w.heap.size with h1 | h1
  · exact h1
  · rw [Array.getElem?_eq_none h1] at h
    cases h

theorem Frm.refl (S : Nat) (w : World) : Frm S w w := ⟨rfl, rfl, rfl, Nat.le_refl _, fun _ _ => rfl, fun _ _ h _ => h⟩

theorem Frm.trans {S : Nat} {a b c : World} (h1 : Frm S a b) (h2 : Frm S b c) : Frm S a c :=
  ⟨h2.os.trans h1.os, h2.tape.trans h1.tape, h2.output.trans h1.output, Nat.le_trans h1.size h2.size, fun B hB => (h2.low B hB).trans (h1.low B hB), fun B o h n => h2.oth B o (h1.oth B o h n) n⟩

theorem Frm.new {S : Nat} {a b : World} (hs : S ≤ a.heap.size) (hg : a.grownBy b none) : Frm S a b :=
  ⟨hg.os, hg.tape, hg.output, hg.size, fun B hB => hg.block B (by omega) (by simp), fun B o h _ => (hg.block B (heap_lt h) (by simp)).trans h⟩

theorem Frm.row {S B : Nat} {a b : World} (hs : S ≤ a.heap.size) (hB : S ≤ B) {o : Obj} (ho : a.heap[B]? = some o) (hn : Num o) (hg : a.grownBy b (some B)) : Frm S a b :=
  ⟨hg.os, hg.tape, hg.output, hg.size, fun C hC => hg.block C (by omega) (by simp; omega), fun C x h n => (hg.block C (heap_lt h) (fun e => by
    obtain rfl : C = B := by injection e
    rw [h] at ho
    obtain rfl : x = o := by injection ho
    exact n hn)).trans h⟩

theorem Frm.own {S : Nat} {a b : World} {v : Value} {n : Nat} {xs : List Value} (hs : S ≤ a.heap.size) (h : a.ownsRow S 3 1 v n xs) (hg : a.grownBy b v.ownBlock) : Frm S a b := by
  rcases h.2 with ⟨rfl, -⟩ | ⟨g, cap, cur, rfl, hb, hh, -⟩
  · exact Frm.new hs hg
  · exact Frm.row hs hb hh ⟨_, _, Or.inl rfl⟩ hg

theorem Frm.grown {S : Nat} {w a b : World} (hs : S = w.heap.size) (hg : w.grownBy a none) (h : Frm S a b) : w.grownBy b none :=
  ⟨h.os.trans hg.os, h.tape.trans hg.tape, h.output.trans hg.output, Nat.le_trans hg.size h.size, fun k hk _ => (h.low k (by omega)).trans (hg.block k hk (by simp))⟩

theorem Frm.nums {S : Nat} {w w' : World} {b : Nat} {l : List ByteArray} (h : Frm S w w') (hn : Nums w b l) : Nums w' b l := by
  obtain ⟨D, n, ⟨es, clock, h1, h2⟩, h3⟩ := hn
  exact ⟨D, n, ⟨es, clock, h.oth b _ h1 (by rintro ⟨c, sy, e | e⟩ <;> cases e), h2⟩, h3⟩

theorem Frm.cells {S : Nat} {w w' : World} {B t : Nat} {cs : Array Value} {sy : Nat × Nat} (h : Frm S w w') (hb : w.heap[B]? = some (.cells cs t sy)) (h1 : t ≠ 3) (h2 : t ≠ 40) : w'.heap[B]? = some (.cells cs t sy) :=
  h.oth B _ hb (by rintro ⟨c, y, e | e⟩ <;> injection e with e3 e4 <;> first | exact h1 e4 | exact h2 e4)

theorem Frm.le {S S' : Nat} {w w' : World} (h : Frm S w w') (hs : S' ≤ S) : Frm S' w w' := ⟨h.os, h.tape, h.output, h.size, fun B hB => h.low B (by omega), h.oth⟩

/-- How lists of numbers lie in two rows, n in each: apart from one another. -/
structure LL (w : World) (base Ba Bb n : Nat) (R : List (List Int)) (rs : List Sl) : Prop where
  rowA : w.ownsRow base 40 1 (.slice (some ⟨Ba, 0, none⟩) n n) n ((rs.take n).map (fun s => .slice s.a s.n s.c))
  rowB : w.ownsRow base 40 1 (.slice (some ⟨Bb, 0, none⟩) n n) n ((rs.drop n).map (fun s => .slice s.a s.n s.c))
  len : rs.length = n + n
  each : ∀ k, k < n + n → Owns w base (rs.getD k nilS).v (R.getD k [])
  apart : ∀ k, k < n + n → ∀ g, (rs.getD k nilS).v.ownBlock = some g → ∀ j, j < n + n → j ≠ k → (rs.getD j nilS).v.ownBlock ≠ some g
  ne : Ba ≠ Bb

theorem own_other {w : World} {b1 b2 t1 t2 s1 s2 n1 n2 : Nat} {v1 v2 : Value} {c1 c2 : List Value} (h1 : w.ownsRow b1 t1 s1 v1 n1 c1) (h2 : w.ownsRow b2 t2 s2 v2 n2 c2) (ht : t1 ≠ t2) {g : Nat} (e1 : v1.ownBlock = some g) (e2 : v2.ownBlock = some g) : False := by
  rcases h1.2 with ⟨rfl, -⟩ | ⟨x, cap, cur, rfl, -, hx, -⟩
  · cases e1
  · rcases h2.2 with ⟨rfl, -⟩ | ⟨y, cap2, cur2, rfl, -, hy, -⟩
    · cases e2
    · obtain rfl : x = g := by simpa [Value.ownBlock] using e1
      obtain rfl : y = x := by simpa [Value.ownBlock] using e2
      rw [hx] at hy
      exact ht (Obj.cells.inj (Option.some.inj hy)).2.1

theorem LL.neA {w : World} {base Ba Bb n : Nat} {R : List (List Int)} {rs : List Sl} (h : LL w base Ba Bb n R rs) {k : Nat} (hk : k < n + n) {g : Nat} (e : (rs.getD k nilS).v.ownBlock = some g) : g ≠ Ba ∧ g ≠ Bb :=
  ⟨fun e2 => own_other (h.each k hk).1 h.rowA (by decide) e (by rw [e2]; rfl), fun e2 => own_other (h.each k hk).1 h.rowB (by decide) e (by rw [e2]; rfl)⟩

theorem LL.new {w w' : World} {base Ba Bb n : Nat} {R : List (List Int)} {rs : List Sl} (h : LL w base Ba Bb n R rs) (hg : w.grownBy w' none) : LL w' base Ba Bb n R rs :=
  ⟨World.ownsRow.kept h.rowA hg (Or.inr (by simp [Value.ownBlock])), World.ownsRow.kept h.rowB hg (Or.inr (by simp [Value.ownBlock])), h.len, fun k hk => (h.each k hk).new hg, h.apart, h.ne⟩

/-- Behind changes of other blocks. -/
theorem LL.kept {w w' : World} {base Ba Bb n : Nat} {R : List (List Int)} {rs : List Sl} (h : LL w base Ba Bb n R rs) {row : Option Nat} (hg : w.grownBy w' row) (hA : row ≠ some Ba) (hB : row ≠ some Bb) (hr : ∀ k, k < n + n → (rs.getD k nilS).v.ownBlock = none ∨ (rs.getD k nilS).v.ownBlock ≠ row) : LL w' base Ba Bb n R rs :=
  ⟨World.ownsRow.kept h.rowA hg (Or.inr (by simpa [Value.ownBlock] using fun e => hA e.symm)), World.ownsRow.kept h.rowB hg (Or.inr (by simpa [Value.ownBlock] using fun e => hB e.symm)), h.len, fun k hk => (h.each k hk).more hg (hr k hk), h.apart, h.ne⟩

/-- Behind a change of a block of another kind. -/
theorem LL.other {w w' : World} {base Ba Bb n B t : Nat} {R : List (List Int)} {rs : List Sl} {cs : Array Value} {sy : Nat × Nat} (h : LL w base Ba Bb n R rs) (hg : w.grownBy w' (some B)) (hb : w.heap[B]? = some (.cells cs t sy)) (h1 : t ≠ 3) (h2 : t ≠ 40) : LL w' base Ba Bb n R rs := by
  have no : ∀ {b2 t2 s2 n2 : Nat} {v2 : Value} {c2 : List Value}, w.ownsRow b2 t2 s2 v2 n2 c2 → t ≠ t2 → v2.ownBlock ≠ some B := by
    intro b2 t2 s2 n2 v2 c2 ho ht e
    rcases ho.2 with ⟨rfl, -⟩ | ⟨x, cap, cur, rfl, -, hx, -⟩
    · cases e
    · obtain rfl : x = B := by simpa [Value.ownBlock] using e
      rw [hx] at hb
      exact ht (Obj.cells.inj (Option.some.inj hb)).2.1.symm
  exact h.kept hg (fun e => no h.rowA h2 e.symm) (fun e => no h.rowB h2 e.symm) (fun k hk => Or.inr (no (h.each k hk).1 h1))

/-- Behind a change of a map. -/
theorem LL.map {w w' : World} {base Ba Bb n B : Nat} {R : List (List Int)} {rs : List Sl} (h : LL w base Ba Bb n R rs) (hg : w.grownBy w' (some B)) (hb : ∀ cs t sy, w.heap[B]? ≠ some (.cells cs t sy)) : LL w' base Ba Bb n R rs := by
  have no : ∀ {b2 t2 s2 n2 : Nat} {v2 : Value} {c2 : List Value}, w.ownsRow b2 t2 s2 v2 n2 c2 → v2.ownBlock ≠ some B := by
    intro b2 t2 s2 n2 v2 c2 ho e
    rcases ho.2 with ⟨rfl, -⟩ | ⟨x, cap, cur, rfl, -, hx, -⟩
    · cases e
    · obtain rfl : x = B := by simpa [Value.ownBlock] using e
      exact hb _ _ _ hx
  exact h.kept hg (fun e => no h.rowA e.symm) (fun e => no h.rowB e.symm) (fun k hk => Or.inr (no (h.each k hk).1))

theorem LL.rdA {w : World} {base Ba Bb n : Nat} {R : List (List Int)} {rs : List Sl} (h : LL w base Ba Bb n R rs) {k : Nat} (hk : k < n) : w.cell? ⟨Ba, k, none⟩ = some (.slice (rs.getD k nilS).a (rs.getD k nilS).n (rs.getD k nilS).c) ∧ w.frozen? ⟨Ba, k, none⟩ = false := by
  have hl := h.len
  refine ⟨?_, World.ownsRow.frozenAt h.rowA k⟩
  rw [World.ownsRow.cellAt h.rowA k (by omega), List.getElem?_map, List.getElem?_take, if_pos hk, List.getD, List.getElem?_eq_getElem (by omega)]
  rfl

theorem LL.rdB {w : World} {base Ba Bb n : Nat} {R : List (List Int)} {rs : List Sl} (h : LL w base Ba Bb n R rs) {k : Nat} (hk : k < n) : w.cell? ⟨Bb, k, none⟩ = some (.slice (rs.getD (n + k) nilS).a (rs.getD (n + k) nilS).n (rs.getD (n + k) nilS).c) ∧ w.frozen? ⟨Bb, k, none⟩ = false := by
  have hl := h.len
  refine ⟨?_, World.ownsRow.frozenAt h.rowB k⟩
  rw [World.ownsRow.cellAt h.rowB k (by omega), List.getElem?_map, List.getElem?_drop, List.getD, List.getElem?_eq_getElem (by omega)]
  rfl

theorem set_take {α : Type} (l : List α) (n m : Nat) (v : α) : (l.set m v).take n = (l.take n).set m v := by rw [List.take_set]

/-- One list is longer by one: in the row and at the place that hold it. -/
theorem LL.app {w w1 : World} {base Ba Bb n : Nat} {R : List (List Int)} {rs : List Sl} (h : LL w base Ba Bb n R rs) {m Bm km : Nat} (hlR : R.length = n + n) (hm : (m < n ∧ Bm = Ba ∧ km = m) ∨ (∃ j, j < n ∧ m = n + j ∧ Bm = Bb ∧ km = j)) {v' : Sl} {i : Nat} (hg : w.grownBy w1 (rs.getD m nilS).v.ownBlock)
    (ho : w1.ownsRow base 3 1 v'.v ((R.getD m []).length + 1) ((R.getD m []).map (Value.int .i64) ++ [.int .i64 (i : Int)])) (hat : v'.v.ownBlock = (rs.getD m nilS).v.ownBlock ∨ v'.v.ownBlock = some w.heap.size) (hi : i ≤ 1048576) (hl : (R.getD m []).length ≤ 1099511627776) (hbs : base ≤ w.heap.size) :
    LL (w1.setCell ⟨Bm, km, none⟩ (.slice v'.a v'.n v'.c)) base Ba Bb n (R.set m (R.getD m [] ++ [(i : Int)])) (rs.set m v') ∧ Frm base w (w1.setCell ⟨Bm, km, none⟩ (.slice v'.a v'.n v'.c)) := by
  have hlen : rs.length = n + n := h.len
  have hmn : m < n + n := by rcases hm with h1 | ⟨j, h1⟩ <;> omega
  have hf1 : Frm base w w1 := Frm.own hbs (h.each m hmn).1 hg
  have h1 : LL w1 base Ba Bb n R rs ∨ True := Or.inr trivial
  have rA1 : w1.ownsRow base 40 1 (.slice (some ⟨Ba, 0, none⟩) n n) n ((rs.take n).map (fun s => .slice s.a s.n s.c)) :=
    World.ownsRow.kept h.rowA hg (Or.inr (fun e => (h.neA hmn e.symm).1 rfl))
  have rB1 : w1.ownsRow base 40 1 (.slice (some ⟨Bb, 0, none⟩) n n) n ((rs.drop n).map (fun s => .slice s.a s.n s.c)) :=
    World.ownsRow.kept h.rowB hg (Or.inr (fun e => (h.neA hmn e.symm).2 rfl))
  have hv1 : ∀ g, v'.v.ownBlock = some g → ∀ j, j < n + n → j ≠ m → (rs.getD j nilS).v.ownBlock ≠ some g := by
    intro g e
    rcases hat with h1 | h1
    · exact h.apart m hmn g (h1.symm.trans e)
    · have e2 : w.heap.size = g := by rw [h1] at e; injection e
      intro j hj hne e3
      have := ((h.each j hj).1.lt g e3).2
      omega
  have k1 : ∀ k, k < n + n → k ≠ m → Owns w1 base (rs.getD k nilS).v (R.getD k []) := fun k hk hne => (h.each k hk).more hg (some_or fun g e e2 => h.apart k hk g e m hmn (fun e3 => hne e3.symm) e2.symm)
  have own1 : Owns w1 base v'.v (R.getD m [] ++ [(i : Int)]) := by
    refine ⟨?_, ?_, fun z hz => ?_⟩
    · rw [List.length_append, List.map_append]; exact ho
    · rw [List.length_append, List.length_singleton]; omega
    · rcases List.mem_append.1 hz with h1 | h1
      · exact (h.each m hmn).2.2 z h1
      · simp at h1; omega
  have nv : ∀ g, v'.v.ownBlock = some g → g ≠ Ba ∧ g ≠ Bb := fun g e => ⟨fun e2 => own_other ho rA1 (by decide) e (by rw [e2]; rfl), fun e2 => own_other ho rB1 (by decide) e (by rw [e2]; rfl)⟩
  have fin : ∀ W, w1.grownBy W (some Bm) → (Bm = Ba ∨ Bm = Bb) →
      W.ownsRow base 40 1 (.slice (some ⟨Ba, 0, none⟩) n n) n (((rs.set m v').take n).map (fun s => .slice s.a s.n s.c)) → W.ownsRow base 40 1 (.slice (some ⟨Bb, 0, none⟩) n n) n (((rs.set m v').drop n).map (fun s => .slice s.a s.n s.c)) →
      LL W base Ba Bb n (R.set m (R.getD m [] ++ [(i : Int)])) (rs.set m v') := by
    intro W hgW hBm hA hB
    refine ⟨hA, hB, by simp [hlen], fun k hk => ?_, fun k hk g e j hj hne => ?_, h.ne⟩
    · rw [getD_set _ _ _ _ _ (by omega), getD_set _ _ _ _ _ (by omega)]
      by_cases e : k = m
      · rw [if_pos e, if_pos e]
        exact own1.more hgW (some_or fun g e2 e3 => by have := nv g e2; injection e3 with e3; rcases hBm with h4 | h4 <;> omega)
      · rw [if_neg e, if_neg e]
        exact (k1 k hk e).more hgW (some_or fun g e2 e3 => by have := h.neA hk e2; injection e3 with e3; rcases hBm with h4 | h4 <;> omega)
    · rw [getD_set _ _ _ _ _ (by omega)] at e ⊢
      by_cases ek : k = m
      · rw [if_pos ek] at e
        rw [if_neg (by omega)]
        exact hv1 g e j hj (by omega)
      · rw [if_neg ek] at e
        by_cases ej : j = m
        · rw [if_pos ej]
          intro e2
          exact hv1 g e2 k hk ek e
        · rw [if_neg ej]
          exact h.apart k hk g e j hj hne
  rcases hm with ⟨hm1, rfl, rfl⟩ | ⟨j, hj, rfl, rfl, rfl⟩
  · have st := World.ownsRow.stored rA1 km (.slice v'.a v'.n v'.c)
    obtain ⟨oA, eA⟩ : ∃ o, w1.heap[Bm]? = some o ∧ Num o := by
      rcases rA1.2 with ⟨e, -⟩ | ⟨g, cap, cur, e, -, hx, -⟩
      · cases e
      · obtain rfl : Bm = g := by simpa using (Value.slice.inj e).1
        exact ⟨_, hx, _, _, Or.inr rfl⟩
    refine ⟨fin _ st.2 (Or.inl rfl) ?_ ?_, hf1.trans (Frm.row (Nat.le_trans hbs hf1.size) (World.ownsRow.lt rA1 Bm rfl).1 eA.1 eA.2 st.2)⟩
    · have := st.1
      rw [← List.map_set (f := fun s : Sl => Value.slice s.a s.n s.c) (a := v')] at this
      rw [set_take]
      exact this
    · rw [List.drop_set, if_pos hm1]
      exact World.ownsRow.kept rB1 st.2 (Or.inr (by simp [Value.ownBlock]; exact fun e => h.ne e.symm))
  · have st := World.ownsRow.stored rB1 km (.slice v'.a v'.n v'.c)
    obtain ⟨oA, eA⟩ : ∃ o, w1.heap[Bm]? = some o ∧ Num o := by
      rcases rB1.2 with ⟨e, -⟩ | ⟨g, cap, cur, e, -, hx, -⟩
      · cases e
      · obtain rfl : Bm = g := by simpa using (Value.slice.inj e).1
        exact ⟨_, hx, _, _, Or.inr rfl⟩
    refine ⟨fin _ st.2 (Or.inr rfl) ?_ ?_, hf1.trans (Frm.row (Nat.le_trans hbs hf1.size) (World.ownsRow.lt rB1 Bm rfl).1 eA.1 eA.2 st.2)⟩
    · rw [List.take_set_of_le (by omega)]
      exact World.ownsRow.kept rA1 st.2 (Or.inr (by simp [Value.ownBlock]; exact h.ne))
    · have := st.1
      rw [← List.map_set (f := fun s : Sl => Value.slice s.a s.n s.c) (a := v')] at this
      rw [List.drop_set, if_neg (by omega), show n + km - n = km by omega]
      exact this
end Go.Proofs.YtmdpeckeliplkaaDoor
