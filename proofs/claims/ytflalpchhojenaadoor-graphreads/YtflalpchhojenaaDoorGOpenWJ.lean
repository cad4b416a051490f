/- Graphs that come in, opened: of any size. -/
import Derived.Test.YtflalpchhojenaaDoorPartE
import Derived.Test.YtflalpchhojenaaDoorNOpenWJ
import Derived.Test.YtflalpchhojenaaDoorGFullAJ
namespace Go.Proofs.YtflalpchhojenaaDoor
open Go.ChangeShapes Go.WideShapes Go.ChangeAt Go.RowKit

theorem bytesVal : Tryd.prog.bytesOf 46 = 48 := by kernel_rfl

theorem bytesNam : Tryd.prog.bytesOf 51 = 72 := by kernel_rfl

theorem bytesNod : Tryd.prog.bytesOf 42 = 96 := by kernel_rfl

section
variable {H : Type} {enc : TypeId × Value → H} {W : World}

set_option maxRecDepth 100000 in
theorem value_inw {n : Nat} {cs : List Value} {x : DataW H × List MemPlace} (hf : DataW.trod enc Tryd.prog W 0 (fun _ => true) true n 46 cs = some x) (hb : ∀ q ∈ x.1.weights Tryd.prog 46, q ≤ reachBytes) : ∃ v : Val, cs = vcells v ∧ ∃ ds, IsInts W v.dv.v ds := by
  obtain ⟨xs, n', -, hx, hl, hlen, hfs⟩ := DataW.trod_struct Tryd.underlying46 hf
  rw [cellsVal] at hl
  match cs, hl with
  | [c0, c1, c2], _ =>
    match xs, hlen with
    | [y0, y1, y2], _ =>
      have h0 := hfs 0 _ rfl
      have h1 := hfs 1 _ rfl
      have h2 := hfs 2 _ rfl
      simp [cellsStr] at h0
      simp [cellsInt] at h1
      simp [cellsSI] at h2
      rw [hx] at hb
      simp only [List.map_cons, List.map_nil] at hb
      have hw : ∀ (j : Nat) (t : TypeId) (d : DataW H), ([9, 3, 30] : List TypeId)[j]? = some t → ([y0.1, y1.1, y2.1] : List (DataW H))[j]? = some d → ∀ q ∈ d.weights Tryd.prog t, q ≤ reachBytes := fun j t d h1 h2 q hq => hb q (by have hm := DataW.weights_mem_each (P := Tryd.prog) h1 h2 q hq; simpa [DataW.weights, Tryd.underlying46] using hm)
      obtain ⟨nm, e0, -, -⟩ := DataW.trod_string Tryd.underlying9 h0
      obtain ⟨ty, e1, -, -⟩ := DataW.trod_int Tryd.underlying3 h1
      obtain ⟨d, ds, e2, i2⟩ := ints_inw h2 (hw 2 _ _ rfl rfl)
      simp at e0 e1 e2
      subst e0 e1 e2
      exact ⟨⟨nm, ty, d⟩, rfl, ds, i2⟩

set_option maxRecDepth 100000 in
theorem named_inw {n : Nat} {cs : List Value} {x : DataW H × List MemPlace} (hf : DataW.trod enc Tryd.prog W 0 (fun _ => true) true n 51 cs = some x) (hb : ∀ q ∈ x.1.weights Tryd.prog 51, q ≤ reachBytes) : ∃ v : Nam, cs = mcells v ∧ ∃ q : List Int × List Int, IsInts W v.dv.v q.1 ∧ IsInts W v.tv.v q.2 := by
  obtain ⟨xs, n', -, hx, hl, hlen, hfs⟩ := DataW.trod_struct Tryd.underlying51 hf
  rw [cellsNam] at hl
  match cs, hl with
  | [c0, c1, c2, c3], _ =>
    match xs, hlen with
    | [y0, y1], _ =>
      have h0 := hfs 0 _ rfl
      have h1 := hfs 1 _ rfl
      simp [cellsStr] at h0
      simp [cellsTen] at h1
      rw [hx] at hb
      simp only [List.map_cons, List.map_nil] at hb
      have hw : ∀ (j : Nat) (t : TypeId) (d : DataW H), ([9, 49] : List TypeId)[j]? = some t → ([y0.1, y1.1] : List (DataW H))[j]? = some d → ∀ q ∈ d.weights Tryd.prog t, q ≤ reachBytes := fun j t d h1 h2 q hq => hb q (by have hm := DataW.weights_mem_each (P := Tryd.prog) h1 h2 q hq; simpa [DataW.weights, Tryd.underlying51] using hm)
      obtain ⟨nm, e0, -, -⟩ := DataW.trod_string Tryd.underlying9 h0
      obtain ⟨ty, d, t, ds, ts, e1, i1, i2⟩ := ten_inw h1 (hw 1 _ _ rfl rfl)
      simp at e0 e1
      obtain ⟨e1, e2, e3⟩ := e1
      subst e0 e1 e2 e3
      exact ⟨⟨nm, ty, d, t⟩, rfl, (ds, ts), i1, i2⟩

set_option maxRecDepth 100000 in
theorem graph_inw {n : Nat} {cs : List Value} {x : DataW H × List MemPlace} (hf : DataW.trod enc Tryd.prog W 0 (fun _ => true) true n 26 cs = some x) (hb : ∀ q ∈ x.1.weights Tryd.prog 26, q ≤ reachBytes) :
    ∃ (g : Gra) (ns : List Nc) (vin vout : List (Val × List Int)) (its : List (Nam × List Int × List Int)), cs = [.string g.name, .slice g.nv.a g.nv.n g.nv.c, .slice g.iv.a g.iv.n g.iv.c, .slice g.ov.a g.ov.n g.ov.c, .slice g.tv.a g.tv.n g.tv.c] ∧ GraphIn0 W g ns vin vout its := by
  obtain ⟨xs, n', -, hx, hl, hlen, hfs⟩ := DataW.trod_struct Tryd.underlying26 hf
  rw [cellsGra] at hl
  match cs, hl with
  | [c0, c1, c2, c3, c4], _ =>
    match xs, hlen with
    | [y0, y1, y2, y3, y4], _ =>
      have h0 := hfs 0 _ rfl
      have h1 := hfs 1 _ rfl
      have h2 := hfs 2 _ rfl
      have h3 := hfs 3 _ rfl
      have h4 := hfs 4 _ rfl
      simp [cellsStr] at h0
      simp [cellsSN] at h1
      simp [cellsSV] at h2 h3
      simp [cellsSM] at h4
      rw [hx] at hb
      simp only [List.map_cons, List.map_nil] at hb
      have hw : ∀ (j : Nat) (t : TypeId) (d : DataW H), ([9, 22, 23, 23, 24] : List TypeId)[j]? = some t → ([y0.1, y1.1, y2.1, y3.1, y4.1] : List (DataW H))[j]? = some d → ∀ q ∈ d.weights Tryd.prog t, q ≤ reachBytes := fun j t d h1 h2 q hq => hb q (by have hm := DataW.weights_mem_each (P := Tryd.prog) h1 h2 q hq; simpa [DataW.weights, Tryd.underlying26] using hm)
      obtain ⟨nm, e0, -, -⟩ := DataW.trod_string Tryd.underlying9 h0
      have : Inhabited Nod := ⟨⟨⟨#[]⟩, ⟨#[]⟩, nilS, ⟨#[]⟩, nilS⟩⟩
      have : Inhabited Val := ⟨⟨⟨#[]⟩, 0, nilS⟩⟩
      have : Inhabited Nam := ⟨⟨⟨#[]⟩, 0, nilS, nilS⟩⟩
      obtain ⟨nv, nds, e1, i1, a1⟩ := list_ofw (bytes := 96) (size := 5) (f := ncells) (P := fun nd => ∃ q : List ByteArray × List Atr × List Cont, NodeIn0 W nd q.1 q.2.1 q.2.2) Tryd.underlying22 cellsNode (by decide) ncells_len bytesNod (fun h hb => by
        obtain ⟨nd, ins, xs, ks, e, k1, k2, k3⟩ := node_inw h hb
        exact ⟨nd, e, (ins, xs, ks), ⟨k1, k2, k3⟩⟩) h1 (hw 1 _ _ rfl rfl)
      obtain ⟨iv, vs, e2, i2, a2⟩ := list_ofw (bytes := 48) (size := 3) (f := vcells) (P := fun v => ∃ ds, IsInts W v.dv.v ds) Tryd.underlying23 cellsVal (by decide) vcells_len bytesVal (fun h hb => value_inw h hb) h2 (hw 2 _ _ rfl rfl)
      obtain ⟨ov, us, e3, i3, a3⟩ := list_ofw (bytes := 48) (size := 3) (f := vcells) (P := fun v => ∃ ds, IsInts W v.dv.v ds) Tryd.underlying23 cellsVal (by decide) vcells_len bytesVal (fun h hb => value_inw h hb) h3 (hw 3 _ _ rfl rfl)
      obtain ⟨tv, ts, e4, i4, a4⟩ := list_ofw (bytes := 72) (size := 4) (f := mcells) (P := fun v => ∃ q : List Int × List Int, IsInts W v.dv.v q.1 ∧ IsInts W v.tv.v q.2) Tryd.underlying24 cellsNam (by decide) mcells_len bytesNam (fun h hb => named_inw h hb) h4 (hw 4 _ _ rfl rfl)
      obtain ⟨p1, q1, b1⟩ := pairs_of a1
      obtain ⟨p2, q2, b2⟩ := pairs_of a2
      obtain ⟨p3, q3, b3⟩ := pairs_of a3
      obtain ⟨p4, q4, b4⟩ := pairs_of a4
      simp at e0 e1 e2 e3 e4
      subst e0 e1 e2 e3 e4
      have qn : ((p1.map (fun p => (⟨p.1, p.2.1, p.2.2.1, p.2.2.2⟩ : Nc))).map (·.n)) = nds := by rw [← q1, List.map_map]; rfl
      refine ⟨⟨nm, nv, iv, ov, tv⟩, p1.map (fun p => ⟨p.1, p.2.1, p.2.2.1, p.2.2.2⟩), p2, p3, p4, rfl, ⟨by rw [qn]; exact i1, by rw [q2]; exact i2, by rw [q3]; exact i3, by rw [q4]; exact i4, fun c hc => ?_, b2, b3, b4⟩⟩
      obtain ⟨p, hp, rfl⟩ := List.mem_map.1 hc
      exact b1 p hp
end
end Go.Proofs.YtflalpchhojenaaDoor
