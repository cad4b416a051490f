/- Nodes that come in, opened: lists within the bound. -/
import Derived.Test.YteigfipgmghgmaaGreatDoorSFrame
import Derived.Test.YteigfipgmghgmaaGreatDoorNCopyN
import Derived.Deep.Slices
namespace Go.Proofs.YteigfipgmghgmaaGreatDoor
open Go.ChangeShapes Go.WideShapes Go.ChangeAt Go.RowKit

theorem bulk_one {H : Type} (d : DataW H) : 1 ≤ Rows.uptoBulk d := by
  cases d with
  | lit l => cases l <;> simp [Rows.uptoBulk]
  | _ => simp [Rows.uptoBulk]

theorem bulk_part {H : Type} {d : DataW H} : ∀ {l : List (DataW H)}, d ∈ l → Rows.uptoBulk d ≤ Rows.uptoBulkAll l
  | x :: r, h => by
    simp only [Rows.uptoBulkAll]
    rcases List.mem_cons.1 h with rfl | h
    · omega
    · have := bulk_part h; omega

theorem bulk_len {H : Type} : ∀ (l : List (DataW H)), l.length ≤ Rows.uptoBulkAll l
  | [] => by simp
  | x :: r => by
    have h1 := bulk_one x
    have h2 := bulk_len r
    simp only [Rows.uptoBulkAll, List.length_cons]
    omega

/-- A list that comes in, its elements opened one by one. -/
theorem list_of {α : Type} [Inhabited α] {H : Type} {enc : TypeId × Value → H} {W : World} {fuel : Nat} {t e : TypeId} {cs : List Value} {x : DataW H × List MemPlace} {bytes size M : Nat} {f : α → List Value} {P : α → Prop}
    (ht : Tryz.prog.underlying t = some (.slice e)) (hc : Tryz.prog.cellsOf e = size) (hs0 : 0 < size) (hf0 : ∀ y, (f y).length = size) (hM : M * bytes ≤ 140737488351232)
    (hel : ∀ {n : Nat} {cs' : List Value} {x' : DataW H × List MemPlace}, DataW.trod enc Tryz.prog W 0 (fun _ => true) true n e cs' = some x' → Rows.uptoBulk x'.1 ≤ M → ∃ y, cs' = f y ∧ P y)
    (hf : DataW.trod enc Tryz.prog W 0 (fun _ => true) true fuel t cs = some x) (hb : Rows.uptoBulk x.1 ≤ M) : ∃ (s : Sl) (xs : List α), cs = [.slice s.a s.n s.c] ∧ IsL bytes size f W s.v xs ∧ (∀ y ∈ xs, P y) ∧ xs.length ≤ M := by
  rcases Go.Deep.open_slice ht hf with ⟨hcs, hx⟩ | ⟨a, len, cap, m, n, D, Pl, hcs, -, hl, hm, hmm, hx, hel'⟩
  · exact ⟨⟨none, 0, 0⟩, [], hcs, IsL.nil .., fun y hy => by simp at hy, by simp⟩
  · simp only [if_true] at hmm
    subst hmm
    rw [hx] at hb
    simp only [Rows.uptoBulk] at hb
    have hln := bulk_len ((List.range len).map D)
    simp only [List.length_map, List.length_range] at hln
    rw [hc] at hel'
    have hy : ∀ i, i < len → ∃ y, W.cells? 0 (a.add (i * size)) size = some (f y) ∧ P y := by
      intro i hi
      obtain ⟨cs', h1, htr⟩ := hel' i (by omega)
      have hp := bulk_part (d := D i) (l := (List.range len).map D) (List.mem_map.2 ⟨i, List.mem_range.2 hi, rfl⟩)
      obtain ⟨y, rfl, hin⟩ := hel htr (by simp only; omega)
      exact ⟨y, h1, hin⟩
    obtain ⟨Y, hY⟩ := Go.Deep.choose_lt hy
    have hlen : ((List.range len).map Y).length = len := by simp
    have hlb : len * bytes ≤ 140737488351232 := Nat.le_trans (Nat.mul_le_mul_right _ (by omega)) hM
    refine ⟨⟨some a, len, m⟩, (List.range len).map Y, hcs, ⟨some a, m, by rw [hlen], by rw [hlen]; exact hl, by simpa [maxLen] using hm, by rw [hlen]; exact hlb, (fun h => by cases h), fun h0 => ?_⟩, fun y hy' => ?_, by rw [hlen]; omega⟩
    · rw [hlen] at h0
      have hcc : ∀ i, i < len → ∀ q, q < size → W.cell? ((a.add (i * size)).add q) = (f (Y i))[q]? := fun i hi => (World.cells?_some (hY i hi).1).2.2
      obtain ⟨b, off, sp⟩ := a
      have hne : ∀ i q, q < size → (f (Y i))[q]? ≠ none := fun i q hq => by rw [List.getElem?_eq_getElem (by rw [hf0]; exact hq)]; simp
      have hsp : sp = none := by
        have h1 := hcc 0 h0 0 hs0
        rw [List.getElem?_eq_getElem (by rw [hf0]; exact hs0)] at h1
        simpa [Addr.add] using World.cell?_spot h1
      subst hsp
      refine ⟨b, off, rfl, fun k hk j hj => ?_⟩
      rw [hlen] at hk
      have h1 := hcc k hk j hj
      rw [Addr.add_lit, Addr.add_lit] at h1
      simp only [List.getElem_map, List.getElem_range]
      exact ⟨h1, hne k j hj⟩
    · obtain ⟨i, hi, rfl⟩ := List.mem_map.1 hy'
      exact (hY i (List.mem_range.1 hi)).2

theorem cellsI64 : Tryz.prog.cellsOf 2 = 1 := by kernel_rfl

theorem cellsStr : Tryz.prog.cellsOf 9 = 1 := by kernel_rfl

theorem cellsAttr : Tryz.prog.cellsOf 92 = 9 := by kernel_rfl

theorem cellsTen : Tryz.prog.cellsOf 32 = 3 := by kernel_rfl

theorem cellsNode : Tryz.prog.cellsOf 25 = 5 := by kernel_rfl

theorem cellsSI : Tryz.prog.cellsOf 29 = 1 := by kernel_rfl

theorem cellsSL : Tryz.prog.cellsOf 30 = 1 := by kernel_rfl

theorem cellsSS : Tryz.prog.cellsOf 22 = 1 := by kernel_rfl

theorem cellsSA : Tryz.prog.cellsOf 23 = 1 := by kernel_rfl

section
variable {H : Type} {enc : TypeId × Value → H} {W : World}

theorem int_in {n : Nat} {cs : List Value} {x : DataW H × List MemPlace} (hf : DataW.trod enc Tryz.prog W 0 (fun _ => true) true n 3 cs = some x) : ∃ z : Int, cs = icell z ∧ (-9223372036854775808 ≤ z ∧ z ≤ 9223372036854775807) := by
  obtain ⟨a, e, -, w⟩ := DataW.trod_int Tryz.underlying3 hf
  exact ⟨a, e, wf_bounds w⟩

theorem i64_in {n : Nat} {cs : List Value} {x : DataW H × List MemPlace} (hf : DataW.trod enc Tryz.prog W 0 (fun _ => true) true n 2 cs = some x) : ∃ z : Int, cs = icell z ∧ (-9223372036854775808 ≤ z ∧ z ≤ 9223372036854775807) := by
  obtain ⟨a, e, -, w⟩ := DataW.trod_int Tryz.underlying2 hf
  exact ⟨a, e, wf_bounds w⟩

theorem str_in {n M : Nat} {cs : List Value} {x : DataW H × List MemPlace} (hf : DataW.trod enc Tryz.prog W 0 (fun _ => true) true n 9 cs = some x) (hb : Rows.uptoBulk x.1 ≤ M) : ∃ s : ByteArray, cs = scell s ∧ s.size ≤ M := by
  obtain ⟨s, e, e', -⟩ := DataW.trod_string Tryz.underlying9 hf
  rw [e'] at hb
  simp only [Rows.uptoBulk] at hb
  have e2 : s.data.toList.length = s.size := Array.length_toList
  exact ⟨s, e, by omega⟩

set_option maxRecDepth 100000 in
theorem ints_in {n : Nat} {cs : List Value} {x : DataW H × List MemPlace} (hf : DataW.trod enc Tryz.prog W 0 (fun _ => true) true n 29 cs = some x) (hb : Rows.uptoBulk x.1 ≤ 1048576) : ∃ (s : Sl) (zs : List Int), cs = [.slice s.a s.n s.c] ∧ IsInts W s.v zs := by
  obtain ⟨s, zs, e, h1, h2, -⟩ := list_of (bytes := 8) (size := 1) (f := icell) (P := fun z => -9223372036854775808 ≤ z ∧ z ≤ 9223372036854775807) Tryz.underlying29 cellsInt (by decide) icell_len (by decide) (fun h _ => int_in h) hf hb
  exact ⟨s, zs, e, ints_isL h1 h2⟩

set_option maxRecDepth 100000 in
theorem i64s_in {n : Nat} {cs : List Value} {x : DataW H × List MemPlace} (hf : DataW.trod enc Tryz.prog W 0 (fun _ => true) true n 30 cs = some x) (hb : Rows.uptoBulk x.1 ≤ 1048576) : ∃ (s : Sl) (zs : List Int), cs = [.slice s.a s.n s.c] ∧ IsInts W s.v zs := by
  obtain ⟨s, zs, e, h1, h2, -⟩ := list_of (bytes := 8) (size := 1) (f := icell) (P := fun z => -9223372036854775808 ≤ z ∧ z ≤ 9223372036854775807) Tryz.underlying30 cellsI64 (by decide) icell_len (by decide) (fun h _ => i64_in h) hf hb
  exact ⟨s, zs, e, ints_isL h1 h2⟩

set_option maxRecDepth 100000 in
theorem strs_in {n : Nat} {cs : List Value} {x : DataW H × List MemPlace} (hf : DataW.trod enc Tryz.prog W 0 (fun _ => true) true n 22 cs = some x) (hb : Rows.uptoBulk x.1 ≤ 1048576) : ∃ (s : Sl) (zs : List ByteArray), cs = [.slice s.a s.n s.c] ∧ IsStrs W s.v zs ∧ (∀ z ∈ zs, z.size ≤ 1048576) ∧ zs.length ≤ 1048576 :=
  list_of (bytes := 16) (size := 1) (f := scell) (P := fun z => z.size ≤ 1048576) Tryz.underlying22 cellsStr (by decide) (fun _ => rfl) (by decide) (fun h hb => str_in h hb) hf hb

set_option maxRecDepth 100000 in
theorem ten_in {n : Nat} {cs : List Value} {x : DataW H × List MemPlace} (hf : DataW.trod enc Tryz.prog W 0 (fun _ => true) true n 32 cs = some x) (hb : Rows.uptoBulk x.1 ≤ 1048576) : ∃ (ty : Int) (d t : Sl) (ds ts : List Int), cs = [.int .i64 ty, .slice d.a d.n d.c, .slice t.a t.n t.c] ∧ IsInts W d.v ds ∧ IsInts W t.v ts := by
  obtain ⟨xs, n', -, hx, hl, hlen, hfs⟩ := DataW.trod_struct Tryz.underlying32 hf
  rw [cellsTen] at hl
  match cs, hl with
  | [c0, c1, c2], _ =>
    match xs, hlen with
    | [y0, y1, y2], _ =>
      have h0 := hfs 0 _ rfl
      have h1 := hfs 1 _ rfl
      have h2 := hfs 2 _ rfl
      simp [cellsInt] at h0
      simp [cellsSI] at h1
      simp [cellsSL] at h2
      rw [hx] at hb
      simp only [List.map_cons, List.map_nil, Rows.uptoBulk, Rows.uptoBulkAll] at hb
      obtain ⟨ty, e0, -, -⟩ := DataW.trod_int Tryz.underlying3 h0
      obtain ⟨d, ds, e1, i1⟩ := ints_in h1 (by omega)
      obtain ⟨t, ts, e2, i2⟩ := i64s_in h2 (by omega)
      simp at e0 e1 e2
      subst e0 e1 e2
      exact ⟨ty, d, t, ds, ts, rfl, i1, i2⟩

set_option maxRecDepth 100000 in
theorem attr_in {n : Nat} {cs : List Value} {x : DataW H × List MemPlace} (hf : DataW.trod enc Tryz.prog W 0 (fun _ => true) true n 92 cs = some x) (hb : Rows.uptoBulk x.1 ≤ 1048576) : ∃ a : Atr, cs = acells a ∧ (∃ c, Has W a c) ∧ a.s.size ≤ 1048576 := by
  obtain ⟨xs, n', -, hx, hl, hlen, hfs⟩ := DataW.trod_struct Tryz.underlying92 hf
  rw [cellsAttr] at hl
  match cs, hl with
  | [c0, c1, c2, c3, c4, c5, c6, c7, c8], _ =>
    match xs, hlen with
    | [y0, y1, y2, y3, y4, y5, y6], _ =>
      have h0 := hfs 0 _ rfl
      have h1 := hfs 1 _ rfl
      have h2 := hfs 2 _ rfl
      have h3 := hfs 3 _ rfl
      have h4 := hfs 4 _ rfl
      have h5 := hfs 5 _ rfl
      have h6 := hfs 6 _ rfl
      simp [cellsStr] at h0 h4
      simp [cellsInt] at h1
      simp [cellsI64] at h2 h3
      simp [cellsTen] at h5
      simp [cellsSL] at h6
      rw [hx] at hb
      simp only [List.map_cons, List.map_nil, Rows.uptoBulk, Rows.uptoBulkAll] at hb
      obtain ⟨nm, e0, -, -⟩ := DataW.trod_string Tryz.underlying9 h0
      obtain ⟨kd, e1, -, -⟩ := DataW.trod_int Tryz.underlying3 h1
      obtain ⟨f, e2, -, -⟩ := DataW.trod_int Tryz.underlying2 h2
      obtain ⟨i, e3, -, -⟩ := DataW.trod_int Tryz.underlying2 h3
      obtain ⟨s, e4, hs⟩ := str_in (M := 1048576) h4 (by omega)
      obtain ⟨ty, d, t, ds, ts, e5, i1, i2⟩ := ten_in h5 (by omega)
      obtain ⟨u, us, e6, i3⟩ := i64s_in h6 (by omega)
      simp [scell] at e0 e1 e2 e3 e4 e5 e6
      obtain ⟨e5, e7, e8⟩ := e5
      subst e0 e1 e2 e3 e4 e5 e6 e7 e8
      exact ⟨⟨nm, kd, f, i, s, ty, d, t, u⟩, rfl, ⟨⟨ds, ts, us⟩, i1, i2, i3⟩, hs⟩

theorem conts_of : ∀ {xs : List Atr}, (∀ a ∈ xs, ∃ c, Has W a c) → ∃ cs : List Cont, ∀ (j : Nat) (a : Atr), xs[j]? = some a → ∃ c, cs[j]? = some c ∧ Has W a c
  | [], _ => ⟨[], fun j a h => by simp at h⟩
  | x :: l, h => by
    obtain ⟨c, hc⟩ := h x (by simp)
    obtain ⟨cs, hcs⟩ := conts_of (xs := l) (fun a ha => h a (by simp [ha]))
    refine ⟨c :: cs, fun j a hj => ?_⟩
    cases j with
    | zero =>
      obtain rfl : x = a := by simpa using hj
      exact ⟨c, rfl, hc⟩
    | succ j => exact hcs j a (by simpa using hj)

set_option maxRecDepth 100000 in
theorem node_in {n : Nat} {cs : List Value} {x : DataW H × List MemPlace} (hf : DataW.trod enc Tryz.prog W 0 (fun _ => true) true n 25 cs = some x) (hb : Rows.uptoBulk x.1 ≤ 1048576) :
    ∃ (nd : Nod) (ins : List ByteArray) (xs : List Atr) (ks : List Cont), cs = [.string nd.op, .string nd.name, .slice nd.iv.a nd.iv.n nd.iv.c, .string nd.out, .slice nd.av.a nd.av.n nd.av.c] ∧ IsStrs W nd.iv.v ins ∧ IsAttrs W nd.av.v xs ∧ (∀ (j : Nat) (a : Atr), xs[j]? = some a → ∃ c, ks[j]? = some c ∧ Has W a c) ∧ xs.length ≤ 1048576 ∧ (∀ a ∈ xs, a.s.size ≤ 1048576) := by
  obtain ⟨xs, n', -, hx, hl, hlen, hfs⟩ := DataW.trod_struct Tryz.underlying25 hf
  rw [cellsNode] at hl
  match cs, hl with
  | [c0, c1, c2, c3, c4], _ =>
    match xs, hlen with
    | [y0, y1, y2, y3, y4], _ =>
      have h0 := hfs 0 _ rfl
      have h1 := hfs 1 _ rfl
      have h2 := hfs 2 _ rfl
      have h3 := hfs 3 _ rfl
      have h4 := hfs 4 _ rfl
      simp [cellsStr] at h0 h1 h3
      simp [cellsSS] at h2
      simp [cellsSA] at h4
      rw [hx] at hb
      simp only [List.map_cons, List.map_nil, Rows.uptoBulk, Rows.uptoBulkAll] at hb
      obtain ⟨op, e0, -, -⟩ := DataW.trod_string Tryz.underlying9 h0
      obtain ⟨nm, e1, -, -⟩ := DataW.trod_string Tryz.underlying9 h1
      obtain ⟨iv, ins, e2, i1, -, -⟩ := strs_in h2 (by omega)
      obtain ⟨ot, e3, -, -⟩ := DataW.trod_string Tryz.underlying9 h3
      have : Inhabited Atr := ⟨noAtr⟩
      obtain ⟨av, ats, e4, i2, hall, hlen⟩ := list_of (bytes := 136) (size := 9) (f := acells) (P := fun a => (∃ c, Has W a c) ∧ a.s.size ≤ 1048576) Tryz.underlying23 cellsAttr (by decide) acells_len (by decide) (fun h hb => attr_in h hb) h4 (by omega)
      obtain ⟨ks, hks⟩ := conts_of (fun a ha => (hall a ha).1)
      simp at e0 e1 e2 e3 e4
      subst e0 e1 e2 e3 e4
      exact ⟨⟨op, nm, iv, ot, av⟩, ins, ats, ks, rfl, i1, i2, hks, hlen, fun a ha => (hall a ha).2⟩
end
end Go.Proofs.YteigfipgmghgmaaGreatDoor
