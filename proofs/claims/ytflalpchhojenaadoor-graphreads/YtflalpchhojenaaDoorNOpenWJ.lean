/- Nodes that come in, opened: of any size. -/
import Derived.Test.YtflalpchhojenaaDoorPartE
namespace Go.Proofs.YtflalpchhojenaaDoor
open Go.ChangeShapes Go.WideShapes Go.ChangeAt Go.RowKit

theorem in_all {H : Type} {P : Program} {e : TypeId} : ∀ {l : List (DataW H)} {d : DataW H}, d ∈ l → ∀ n ∈ d.weights P e, n ∈ DataW.weightsAll P e l
  | x :: l, d, hd, n, hn => by
    rw [DataW.weightsAll, List.mem_append]
    rcases List.mem_cons.1 hd with rfl | hd
    · exact Or.inl hn
    · exact Or.inr (in_all hd n hn)

theorem bytesI64 : Tryd.prog.bytesOf 2 = 8 := by kernel_rfl

theorem bytesStr : Tryd.prog.bytesOf 9 = 16 := by kernel_rfl

theorem bytesAttr : Tryd.prog.bytesOf 80 = 136 := by kernel_rfl

/-- A list that comes in, its elements opened one by one. -/
theorem list_ofw {α : Type} [Inhabited α] {H : Type} {enc : TypeId × Value → H} {W : World} {fuel : Nat} {t e : TypeId} {cs : List Value} {x : DataW H × List MemPlace} {bytes size : Nat} {f : α → List Value} {P : α → Prop}
    (ht : Tryd.prog.underlying t = some (.slice e)) (hc : Tryd.prog.cellsOf e = size) (hs0 : 0 < size) (hf0 : ∀ y, (f y).length = size) (hby : Tryd.prog.bytesOf e = bytes)
    (hel : ∀ {n : Nat} {cs' : List Value} {x' : DataW H × List MemPlace}, DataW.trod enc Tryd.prog W 0 (fun _ => true) true n e cs' = some x' → (∀ q ∈ x'.1.weights Tryd.prog e, q ≤ reachBytes) → ∃ y, cs' = f y ∧ P y)
    (hf : DataW.trod enc Tryd.prog W 0 (fun _ => true) true fuel t cs = some x) (hb : ∀ q ∈ x.1.weights Tryd.prog t, q ≤ reachBytes) : ∃ (s : Sl) (xs : List α), cs = [.slice s.a s.n s.c] ∧ IsL bytes size f W s.v xs ∧ (∀ y ∈ xs, P y) := by
  rcases Go.Deep.open_slice ht hf with ⟨hcs, hx⟩ | ⟨a, len, cap, m, n, D, Pl, hcs, -, hl, hm, hmm, hx, hel'⟩
  · exact ⟨⟨none, 0, 0⟩, [], hcs, IsL.nil .., fun y hy => by simp at hy⟩
  · simp only [if_true] at hmm
    subst hmm
    rw [hx] at hb
    simp only [DataW.weights, ht] at hb
    have hln := hb _ (List.mem_cons_self ..)
    rw [hby] at hln
    simp only [List.length_map, List.length_range, reachBytes] at hln
    rw [hc] at hel'
    have hy : ∀ i, i < len → ∃ y, W.cells? 0 (a.add (i * size)) size = some (f y) ∧ P y := by
      intro i hi
      obtain ⟨cs', h1, htr⟩ := hel' i (by omega)
      obtain ⟨y, rfl, hin⟩ := hel htr (fun q hq => hb q (List.mem_cons_of_mem _ (List.mem_append_left _ (in_all (List.mem_map.2 ⟨i, List.mem_range.2 hi, rfl⟩) _ hq))))
      exact ⟨y, h1, hin⟩
    obtain ⟨Y, hY⟩ := Go.Deep.choose_lt hy
    have hlen : ((List.range len).map Y).length = len := by simp
    have hlb : len * bytes ≤ 140737488351232 := Nat.le_trans (Nat.mul_le_mul_right _ (by omega)) hln
    refine ⟨⟨some a, len, m⟩, (List.range len).map Y, hcs, ⟨some a, m, by rw [hlen], by rw [hlen]; exact hl, by simpa [maxLen] using hm, by rw [hlen]; exact hlb, (fun h => by cases h), fun h0 => ?_⟩, fun y hy' => ?_⟩
    · rw [hlen] at h0
      have hcc : ∀ i, i < len → ∀ q, q < size → W.cell? ((a.add (i * size)).add q) = (f (Y i))[q]? := fun i hi => (World.cells?_some (hY i hi).1).2.2
      obtain ⟨b, off, sp⟩ := a
      have hne : ∀ i q, q < size → (f (Y i))[q]? ≠ none := fun i q hq => by rw [List.getElem?_eq_getElem (by rw [hf0]; exact hq)]; simp
      have hsp : sp = none := by
        have h1 := hcc 0 h0 0 hs0
        rw [List.getElem?_eq_getElem (by rw [hf0]; exact hs0)] at h1
        simpa [Addr.add] using World.cell?_spot h1
      subst hsp
      refine ⟨b, off, rfl, fun k hk j hj => ?_⟩
      rw [hlen] at hk
      have h1 := hcc k hk j hj
      rw [Addr.add_lit, Addr.add_lit] at h1
      simp only [List.getElem_map, List.getElem_range]
      exact ⟨h1, hne k j hj⟩
    · obtain ⟨i, hi, rfl⟩ := List.mem_map.1 hy'
      exact (hY i (List.mem_range.1 hi)).2

section
variable {H : Type} {enc : TypeId × Value → H} {W : World}

set_option maxRecDepth 100000 in
theorem ints_inw {n : Nat} {cs : List Value} {x : DataW H × List MemPlace} (hf : DataW.trod enc Tryd.prog W 0 (fun _ => true) true n 30 cs = some x) (hb : ∀ q ∈ x.1.weights Tryd.prog 30, q ≤ reachBytes) : ∃ (s : Sl) (zs : List Int), cs = [.slice s.a s.n s.c] ∧ IsInts W s.v zs := by
  obtain ⟨s, zs, e, h1, h2⟩ := list_ofw (bytes := 8) (size := 1) (f := icell) (P := fun z => -9223372036854775808 ≤ z ∧ z ≤ 9223372036854775807) Tryd.underlying30 cellsInt (by decide) icell_len bytesInt (fun h _ => int_in h) hf hb
  exact ⟨s, zs, e, ints_isL h1 h2⟩

set_option maxRecDepth 100000 in
theorem i64s_inw {n : Nat} {cs : List Value} {x : DataW H × List MemPlace} (hf : DataW.trod enc Tryd.prog W 0 (fun _ => true) true n 47 cs = some x) (hb : ∀ q ∈ x.1.weights Tryd.prog 47, q ≤ reachBytes) : ∃ (s : Sl) (zs : List Int), cs = [.slice s.a s.n s.c] ∧ IsInts W s.v zs := by
  obtain ⟨s, zs, e, h1, h2⟩ := list_ofw (bytes := 8) (size := 1) (f := icell) (P := fun z => -9223372036854775808 ≤ z ∧ z ≤ 9223372036854775807) Tryd.underlying47 cellsI64 (by decide) icell_len bytesI64 (fun h _ => i64_in h) hf hb
  exact ⟨s, zs, e, ints_isL h1 h2⟩

set_option maxRecDepth 100000 in
theorem strs_inw {n : Nat} {cs : List Value} {x : DataW H × List MemPlace} (hf : DataW.trod enc Tryd.prog W 0 (fun _ => true) true n 39 cs = some x) (hb : ∀ q ∈ x.1.weights Tryd.prog 39, q ≤ reachBytes) : ∃ (s : Sl) (zs : List ByteArray), cs = [.slice s.a s.n s.c] ∧ IsStrs W s.v zs := by
  obtain ⟨s, zs, e, h1, -⟩ := list_ofw (bytes := 16) (size := 1) (f := scell) (P := fun _ => True) Tryd.underlying39 cellsStr (by decide) (fun _ => rfl) bytesStr (fun h _ => by obtain ⟨s, e, -, -⟩ := DataW.trod_string Tryd.underlying9 h; exact ⟨s, e, trivial⟩) hf hb
  exact ⟨s, zs, e, h1⟩

set_option maxRecDepth 100000 in
theorem ten_inw {n : Nat} {cs : List Value} {x : DataW H × List MemPlace} (hf : DataW.trod enc Tryd.prog W 0 (fun _ => true) true n 49 cs = some x) (hb : ∀ q ∈ x.1.weights Tryd.prog 49, q ≤ reachBytes) : ∃ (ty : Int) (d t : Sl) (ds ts : List Int), cs = [.int .i64 ty, .slice d.a d.n d.c, .slice t.a t.n t.c] ∧ IsInts W d.v ds ∧ IsInts W t.v ts := by
  obtain ⟨xs, n', -, hx, hl, hlen, hfs⟩ := DataW.trod_struct Tryd.underlying49 hf
  rw [cellsTen] at hl
  match cs, hl with
  | [c0, c1, c2], _ =>
    match xs, hlen with
    | [y0, y1, y2], _ =>
      have h0 := hfs 0 _ rfl
      have h1 := hfs 1 _ rfl
      have h2 := hfs 2 _ rfl
      simp [cellsInt] at h0
      simp [cellsSI] at h1
      simp [cellsSL] at h2
      rw [hx] at hb
      simp only [List.map_cons, List.map_nil] at hb
      have hw : ∀ (j : Nat) (t : TypeId) (d : DataW H), ([3, 30, 47] : List TypeId)[j]? = some t → ([y0.1, y1.1, y2.1] : List (DataW H))[j]? = some d → ∀ q ∈ d.weights Tryd.prog t, q ≤ reachBytes := fun j t d h1 h2 q hq => hb q (by have hm := DataW.weights_mem_each (P := Tryd.prog) h1 h2 q hq; simpa [DataW.weights, Tryd.underlying49] using hm)
      obtain ⟨ty, e0, -, -⟩ := DataW.trod_int Tryd.underlying3 h0
      obtain ⟨d, ds, e1, i1⟩ := ints_inw h1 (hw 1 _ _ rfl rfl)
      obtain ⟨t, ts, e2, i2⟩ := i64s_inw h2 (hw 2 _ _ rfl rfl)
      simp at e0 e1 e2
      subst e0 e1 e2
      exact ⟨ty, d, t, ds, ts, rfl, i1, i2⟩

set_option maxRecDepth 100000 in
theorem attr_inw {n : Nat} {cs : List Value} {x : DataW H × List MemPlace} (hf : DataW.trod enc Tryd.prog W 0 (fun _ => true) true n 80 cs = some x) (hb : ∀ q ∈ x.1.weights Tryd.prog 80, q ≤ reachBytes) : ∃ a : Atr, cs = acells a ∧ (∃ c, Has W a c) := by
  obtain ⟨xs, n', -, hx, hl, hlen, hfs⟩ := DataW.trod_struct Tryd.underlying80 hf
  rw [cellsAttr] at hl
  match cs, hl with
  | [c0, c1, c2, c3, c4, c5, c6, c7, c8], _ =>
    match xs, hlen with
    | [y0, y1, y2, y3, y4, y5, y6], _ =>
      have h0 := hfs 0 _ rfl
      have h1 := hfs 1 _ rfl
      have h2 := hfs 2 _ rfl
      have h3 := hfs 3 _ rfl
      have h4 := hfs 4 _ rfl
      have h5 := hfs 5 _ rfl
      have h6 := hfs 6 _ rfl
      simp [cellsStr] at h0 h4
      simp [cellsInt] at h1
      simp [cellsI64] at h2 h3
      simp [cellsTen] at h5
      simp [cellsSL] at h6
      rw [hx] at hb
      simp only [List.map_cons, List.map_nil] at hb
      have hw : ∀ (j : Nat) (t : TypeId) (d : DataW H), ([9, 3, 2, 2, 9, 49, 47] : List TypeId)[j]? = some t → ([y0.1, y1.1, y2.1, y3.1, y4.1, y5.1, y6.1] : List (DataW H))[j]? = some d → ∀ q ∈ d.weights Tryd.prog t, q ≤ reachBytes := fun j t d h1 h2 q hq => hb q (by have hm := DataW.weights_mem_each (P := Tryd.prog) h1 h2 q hq; simpa [DataW.weights, Tryd.underlying80] using hm)
      obtain ⟨nm, e0, -, -⟩ := DataW.trod_string Tryd.underlying9 h0
      obtain ⟨kd, e1, -, -⟩ := DataW.trod_int Tryd.underlying3 h1
      obtain ⟨f, e2, -, -⟩ := DataW.trod_int Tryd.underlying2 h2
      obtain ⟨i, e3, -, -⟩ := DataW.trod_int Tryd.underlying2 h3
      obtain ⟨s, e4, -, -⟩ := DataW.trod_string Tryd.underlying9 h4
      obtain ⟨ty, d, t, ds, ts, e5, i1, i2⟩ := ten_inw h5 (hw 5 _ _ rfl rfl)
      obtain ⟨u, us, e6, i3⟩ := i64s_inw h6 (hw 6 _ _ rfl rfl)
      simp at e0 e1 e2 e3 e4 e5 e6
      obtain ⟨e5, e7, e8⟩ := e5
      subst e0 e1 e2 e3 e4 e5 e6 e7 e8
      exact ⟨⟨nm, kd, f, i, s, ty, d, t, u⟩, rfl, ⟨⟨ds, ts, us⟩, i1, i2, i3⟩⟩

set_option maxRecDepth 100000 in
theorem node_inw {n : Nat} {cs : List Value} {x : DataW H × List MemPlace} (hf : DataW.trod enc Tryd.prog W 0 (fun _ => true) true n 42 cs = some x) (hb : ∀ q ∈ x.1.weights Tryd.prog 42, q ≤ reachBytes) :
    ∃ (nd : Nod) (ins : List ByteArray) (xs : List Atr) (ks : List Cont), cs = [.string nd.op, .string nd.name, .slice nd.iv.a nd.iv.n nd.iv.c, .string nd.out, .slice nd.av.a nd.av.n nd.av.c] ∧ IsStrs W nd.iv.v ins ∧ IsAttrs W nd.av.v xs ∧ (∀ (j : Nat) (a : Atr), xs[j]? = some a → ∃ c, ks[j]? = some c ∧ Has W a c) := by
  obtain ⟨xs, n', -, hx, hl, hlen, hfs⟩ := DataW.trod_struct Tryd.underlying42 hf
  rw [cellsNode] at hl
  match cs, hl with
  | [c0, c1, c2, c3, c4], _ =>
    match xs, hlen with
    | [y0, y1, y2, y3, y4], _ =>
      have h0 := hfs 0 _ rfl
      have h1 := hfs 1 _ rfl
      have h2 := hfs 2 _ rfl
      have h3 := hfs 3 _ rfl
      have h4 := hfs 4 _ rfl
      simp [cellsStr] at h0 h1 h3
      simp [cellsSS] at h2
      simp [cellsSA] at h4
      rw [hx] at hb
      simp only [List.map_cons, List.map_nil] at hb
      have hw : ∀ (j : Nat) (t : TypeId) (d : DataW H), ([9, 9, 39, 9, 40] : List TypeId)[j]? = some t → ([y0.1, y1.1, y2.1, y3.1, y4.1] : List (DataW H))[j]? = some d → ∀ q ∈ d.weights Tryd.prog t, q ≤ reachBytes := fun j t d h1 h2 q hq => hb q (by have hm := DataW.weights_mem_each (P := Tryd.prog) h1 h2 q hq; simpa [DataW.weights, Tryd.underlying42] using hm)
      obtain ⟨op, e0, -, -⟩ := DataW.trod_string Tryd.underlying9 h0
      obtain ⟨nm, e1, -, -⟩ := DataW.trod_string Tryd.underlying9 h1
      obtain ⟨iv, ins, e2, i1⟩ := strs_inw h2 (hw 2 _ _ rfl rfl)
      obtain ⟨ot, e3, -, -⟩ := DataW.trod_string Tryd.underlying9 h3
      have : Inhabited Atr := ⟨noAtr⟩
      obtain ⟨av, ats, e4, i2, hall⟩ := list_ofw (bytes := 136) (size := 9) (f := acells) (P := fun a => ∃ c, Has W a c) Tryd.underlying40 cellsAttr (by decide) acells_len bytesAttr (fun h hb => attr_inw h hb) h4 (hw 4 _ _ rfl rfl)
      obtain ⟨ks, hks⟩ := conts_of hall
      simp at e0 e1 e2 e3 e4
      subst e0 e1 e2 e3 e4
      exact ⟨⟨op, nm, iv, ot, av⟩, ins, ats, ks, rfl, i1, i2, hks⟩
end
end Go.Proofs.YtflalpchhojenaaDoor
